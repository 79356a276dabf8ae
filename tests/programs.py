"""Systems of servers and their clients, and of a pager and a thread behind it."""

from stage import words_lines
from clankernel.asm import Program
from clankernel.cells import memory_of
from clankernel.servers import server
from clankernel.systems import System


def client(calls, waits=True):
    """A program that makes these calls over the right in place 0, one behind the other, then traps."""
    lines = ["loop:", "set r7 0", "load r0 r7 left", "zero r0 stop", "set r1 1", "sub r0 r1", "store r0 r7 left", "load r2 r7 next"]
    lines += ["load r3 r2 0", "load r4 r2 1", "load r5 r2 2", "load r6 r2 3", "set r0 4", "add r2 r0", "store r2 r7 next"]
    lines += ["set r0 0", f"set r1 {253 if waits else 255}", "set r2 255", "high r2 255", "call 0", "jump loop", "stop:", "trap 0"]
    lines += ["left:", f"word {len(calls)}", "next:", "word 32", "at 32"]
    return "\n".join(lines + [f"word {word}" for words in calls for word in words])


def system(name, clients, gates=1):
    """A server, and clients (badge, calls, whether they wait): thread 0 serves, thread K is the Kth client."""
    many = len(clients)
    lines = ["frames 16", "task 0 -"] + [f"task {task} 0" for task in range(1, many + 2)]
    lines += ["thread 0 1 0 4 3 ready"] + [f"thread {task} {task + 1} 0 4 3 ready" for task in range(1, many + 1)]
    lines += [f"gate {gate} 0" for gate in range(gates)]
    lines += [f"right {task} {task + 1} 0 g{(task - 1) % gates} s {'-' if told[0] is None else told[0]} -" for task, told in enumerate(clients, start=1)]
    lines += [f"page 1 {page} rwx 0 {page}" for page in range(8)]
    words, frame = words_lines(server(name).text, range(8)), 8
    for task, told in enumerate(clients, start=2):
        pages = 2 + (4 * len(told[1]) + 15) // 16
        lines += [f"page {task} {page} rwx 0 {frame + page}" for page in range(pages)]
        words.update(words_lines(client(told[1], told[2]), range(frame, frame + pages)))
        frame += pages
    lines += [f"words {number} " + " ".join(map(str, words[number])) for number in sorted(words) if any(words[number])]
    return System("\n".join(lines + ["turns slices"]))


def paged_system(program, slices=3):
    """A pager, thread 0, and thread 1 behind it, with this program in its four pages."""
    lines = ["frames 16", "task 0 -", "task 1 0", "task 2 0", f"thread 0 1 0 4 {slices} ready", f"thread 1 2 0 4 {slices} ready", "gate 0 0", "doors 1 0 -",
             "right 0 2 0 g0 s 7 -"]
    lines += [f"page 1 {page} rwx 0 {page}" for page in range(14)]
    words = words_lines(server("pager").text, range(8))
    memory = memory_of(Program(program).words)
    words.update({8 + page: list(memory[16 * page:16 * page + 16]) for page in range(4)})
    lines += [f"words {frame} " + " ".join(map(str, words[frame])) for frame in sorted(words) if any(words[frame])]
    return System("\n".join(lines + ["turns slices"])), memory
