"""The texts of the servers' programs: HEAD, and behind it what each does with what came.

At `got` r1 is the badge, r3 to r6 are the words that came; at `answer` r3 to r6 are the answer, of
which `nought` and `noughts` set the last three, or two, to 0. At `none` nothing is answered, at `reply`
r7 tells items. Data stand behind HEAD, so that the number of a row with a register that is 0 reaches them.
"""

# A reply that nobody waits for brings 8 and no message: then the next one is waited for alone. Whoever
# sends a string brings 10 with its message.
HEAD = """none:
set r0 255
set r7 0
jump halves
nought:
set r4 0
noughts:
set r5 0
set r6 0
answer:
set r7 0
reply:
set r0 254
halves:
set r1 254
set r2 255
call 0
zero r0 got
set r7 10
same r0 r7
jump got
jump none"""

# The line holds its words in a round of eight times four words, from 96 to 127.
# Behind `many` of names stand the names that mean something, eight words farther what they mean; the last one
# comes into the place of one that means nothing any more.
# The items of the pager map one block. Of each of its frames it knows the block (32 times the page, and 1), the
# address, and by its books where the page in it is held, 0 for none: at 24 and at 28; `turn` is that of the frame
# that was taken last.
BODIES = {
    "echo": """got:
jump answer""",
    "counter": """total:
word 0
many:
word 0
got:
set r7 0
load r2 r7 total
load r6 r7 many
set r0 2
same r3 r0
jump tell
set r0 1
same r3 r0
jump add
set r3 1
jump nought
tell:
copy r4 r2
copy r5 r2
set r3 0
jump answer
add:
add r6 r0
store r6 r7 many
copy r5 r2
add r5 r4
store r5 r7 total
copy r4 r2
set r3 0
jump answer""",
    "line": """first:
word 96
last:
word 96
held:
word 0
got:
set r7 0
load r0 r7 held
set r2 1
same r3 r2
jump put
set r2 2
same r3 r2
jump take
set r3 1
jump nought
put:
set r2 8
same r0 r2
jump full
load r3 r7 last
store r1 r3 0
store r4 r3 1
store r5 r3 2
store r6 r3 3
set r2 4
add r3 r2
set r2 128
same r3 r2
set r3 96
store r3 r7 last
set r2 1
add r0 r2
store r0 r7 held
set r3 0
copy r4 r0
jump noughts
take:
zero r0 empty
set r2 1
sub r0 r2
store r0 r7 held
load r2 r7 first
load r3 r2 0
load r4 r2 1
load r5 r2 2
load r6 r2 3
set r0 4
add r2 r0
set r0 128
same r2 r0
set r2 96
store r2 r7 first
jump answer
empty:
set r3 254
high r3 255
jump nought
full:
set r3 2
jump nought""",
    "names": """many:
word 0
space 16
name worths 24
got:
set r7 0
zero r4 bad
load r2 r7 many
zero r2 miss
set r1 1
look:
load r0 r2 many
same r0 r4
jump hit
sub r2 r1
some r2 look
miss:
set r0 1
same r3 r0
jump fresh
set r0 2
same r3 r0
jump missing
set r0 3
same r3 r0
jump missing
bad:
set r3 1
jump nought
hit:
set r0 2
same r3 r0
jump tell
set r0 1
same r3 r0
jump mean
set r0 3
same r3 r0
jump forget
jump bad
fresh:
load r2 r7 many
set r0 8
same r2 r0
jump full
set r0 1
add r2 r0
store r2 r7 many
store r4 r2 many
mean:
store r5 r2 worths
set r3 0
jump nought
tell:
load r4 r2 worths
set r3 0
jump noughts
forget:
load r1 r7 many
load r0 r1 many
store r0 r2 many
load r0 r1 worths
store r0 r2 worths
set r0 1
sub r1 r0
store r1 r7 many
set r3 0
jump nought
missing:
set r3 3
jump nought
full:
set r3 2
jump nought""",
    "pager": """items:
word 2
block:
word 0
word 7
word 0
word 0
turn:
word 28
at 24
word 385
word 192
word 0
at 28
word 417
word 208
word 0
got:
some r6 none
zero r3 none
set r0 63
less r0 r4
jump none
set r0 255
less r0 r5
jump none
set r0 3
less r0 r3
jump none
xor r5 r4
zero r5 fault
same r3 r0
jump none
fault:
set r0 48
and r4 r0
set r0 128
add r4 r0
set r7 0
load r5 r7 turn
set r0 4
xor r5 r0
store r5 r7 turn
load r0 r5 0
store r0 r7 block
load r6 r5 1
load r3 r5 2
store r4 r5 2
zero r3 bring
set r1 7
set r2 0
call 1
copy r1 r6
copy r2 r3
link r7 carry
bring:
copy r1 r4
copy r2 r6
link r7 carry
set r3 0
set r4 0
set r5 0
set r6 0
set r7 items
jump reply
carry:
load r0 r1 0
store r0 r2 0
load r0 r1 1
store r0 r2 1
load r0 r1 2
store r0 r2 2
load r0 r1 3
store r0 r2 3
load r0 r1 4
store r0 r2 4
load r0 r1 5
store r0 r2 5
load r0 r1 6
store r0 r2 6
load r0 r1 7
store r0 r2 7
load r0 r1 8
store r0 r2 8
load r0 r1 9
store r0 r2 9
load r0 r1 10
store r0 r2 10
load r0 r1 11
store r0 r2 11
load r0 r1 12
store r0 r2 12
load r0 r1 13
store r0 r2 13
load r0 r1 14
store r0 r2 14
load r0 r1 15
store r0 r2 15
go r7""",
}
