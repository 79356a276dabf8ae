"""A kernel of another shape, for one tick: read from an image, done thread by thread, written as an image.

It takes deeds of spaces, rights, clans, devices and turns from the package; all else, waits and meetings, items,
registers, faults, and how turns follow, it does by itself.
"""

from clankernel.clans import Clans
from clankernel.devices import Devices
from clankernel.images import image
from clankernel.rights import Rights
from clankernel.rows import row_of
from clankernel.spaces import Spaces
from clankernel.trees import page_at
from clankernel.turns import Turns
from clankernel.ways import next_stop, straight

NUMBERS = {("late", "send"): 1, ("late", "receive"): 2, ("gone", "send"): 3, ("gone", "receive"): 4, ("broken", "send"): 5, ("broken", "receive"): 6}
LETTERS = ["", "r", "w", "rw", "x", "rx", "wx", "rwx"]
OF_RIGHTS = {1: "s", 3: "sg", 4: "c", 6: "cg"}


def number(word):
    return int(word) if word.isdigit() else {"-": None, "none": None, "ever": None}.get(word, word)


class Thread:
    def __init__(self):
        self.wait = None
        self.owes = None
        self.gone = False
        self.passing = self.meant = self.items = self.fault = None


class Plain:
    def __init__(self, kernel):
        self.worlds, head, tail = {}, [], []
        name = None
        for line in image(kernel).split("\n"):
            kind = line.split(" ")[0]
            if kind == "world":
                name = line.split(" ")[1]
                self.worlds[name] = []
            elif kind in ("words", "input"):
                tail.append(line)
            else:
                (head if name is None else self.worlds[name]).append(line)
        text = {name: "\n".join(lines) for name, lines in self.worlds.items()}
        self.spaces, self.rights, self.clans = Spaces(text["spaces"]), Rights(text["rights"]), Clans(text["clans"])
        self.turns, self.devices = Turns(text["turns"]), Devices(text["devices"])
        self.threads = [Thread() for line in head if line.startswith("cell")]
        self.borders, self.words, self.inputs, self.events, self.later = {}, {}, [], [], []
        for line in head:
            self.take(line.split(" "))
        for line in self.worlds["waits"]:
            self.take_wait(line.split(" "))
        for line in tail:
            told = [number(word) for word in line.split(" ")[1:]]
            if line.startswith("words"):
                self.words[told[0]] = told[1:]
            else:
                self.inputs.append(told)

    def take(self, words):
        kind, told = words[0], [number(word) for word in words[1:]]
        if kind == "tick":
            self.tick = told[0]
            return
        if kind == "border":
            self.borders[told[0]] = told[1]
            return
        thread = self.threads[told[0]]
        if kind == "cell":
            thread.place, thread.registers, thread.doors = told[1], told[2:10], told[11:]
        elif kind == "fault":
            thread.fault = (told[1], told[2], told[3]) if told[1] == "page" else (told[1], told[2])
        else:
            setattr(thread, {"passing": "passing", "meant": "meant", "items": "items"}[kind], tuple(told[1:]))

    def take_wait(self, words):
        kind, told = words[0], [number(word) for word in words[1:]]
        if kind == "threads":
            for thread, priority in zip(self.threads, told):
                thread.priority = priority
        elif kind == "gates":
            self.owners = told
        elif kind == "gone":
            self.threads[told[0]].gone = True
        elif kind == "owes":
            self.threads[told[0]].owes = told[1]
        elif kind == "receives":
            self.threads[told[0]].wait = {"kind": "receives", "from": told[1], "since": told[2], "till": told[3]}
        elif kind == "sends":
            names = ("gate", "badge", "since", "till", "then", "limit")
            self.threads[told[0]].wait = dict(zip(names, told[1:3] + told[7:]), kind="sends", words=tuple(told[3:7]))

    # What it all stands like.

    def image(self):
        lines = [f"tick {self.tick}"]
        dash = lambda value, none="-": none if value is None else value
        for at, one in enumerate(self.threads):
            lines.append(" ".join(map(str, ["cell", at, one.place, *one.registers, self.state(at), dash(one.doors[0]), dash(one.doors[1])])))
        lines += [f"border {task} {self.borders[task]}" for task in sorted(self.borders)]
        lines += [f"passing {at} {one.passing[0]} {dash(one.passing[1])} {one.passing[2]}" for at, one in enumerate(self.threads) if one.passing]
        lines += [f"meant {at} {one.meant[0]} {one.meant[1]}" for at, one in enumerate(self.threads) if one.meant]
        lines += [" ".join(map(str, ["items", at, *one.items])) for at, one in enumerate(self.threads) if one.items]
        lines += [" ".join(map(str, ["fault", at, *(one.fault + ("-",))[:3]])) for at, one in enumerate(self.threads) if one.fault]
        waits = [f"now {self.tick}", " ".join(map(str, ["threads"] + [one.priority for one in self.threads])), " ".join(map(str, ["gates"] + self.owners))]
        for at, one in enumerate(self.threads):
            wait = one.wait
            if one.gone:
                waits.append(f"gone {at}")
            elif wait and wait["kind"] == "receives":
                waits.append(f"receives {at} {wait['from']} {wait['since']} {dash(wait['till'], 'ever')}")
            elif wait:
                told = [at, wait["gate"], dash(wait["badge"], "none"), *wait["words"], wait["since"], dash(wait["till"], "ever"), dash(wait["then"], "none"), dash(wait["limit"], "ever")]
                waits.append(" ".join(map(str, ["sends"] + told)))
        waits += [f"owes {at} {one.owes}" for at, one in enumerate(self.threads) if one.owes is not None]
        for name, text in (("spaces", self.spaces.text), ("rights", self.rights.text), ("clans", self.clans.text), ("waits", "\n".join(waits)), ("turns", self.turns.text), ("devices", self.devices.text)):
            lines += [f"world {name}", text]
        lines += [" ".join(map(str, ["words", frame, *self.words[frame]])) for frame in sorted(self.words) if any(self.words[frame])]
        return "\n".join(lines + [" ".join(map(str, ["input"] + list(told))) for told in self.inputs])

    def state(self, at):
        one = self.threads[at]
        if one.gone:
            return "gone"
        if one.fault:
            return "faults"
        if one.wait:
            return one.wait["kind"]
        return "ready" if at in self.turns.row else "rests"

    # One tick.

    def go(self):
        self.tick += 1
        for at, one in enumerate(self.threads):
            if one.wait and one.wait["till"] == self.tick:
                self.end(at, "late")
        while self.inputs and self.inputs[0][0] == self.tick:
            _, device, word = self.inputs.pop(0)
            self.devices = self.devices.rang(device, word)
            self.tell("rang", device, word)
        while True:
            open_gates = [gate for gate, owner in enumerate(self.owners) if self.takes(owner, gate)]
            device = self.devices.first_at(tuple(open_gates))
            if device is None:
                break
            gate = int(self.devices.text.split("\n")[device].split(" ")[1])
            words, badge, self.devices = self.devices.taken(device)
            self.met("device", None, self.owners[gate], gate, badge, words)
        self.runner = self.turns.next
        if self.runner is None:
            self.tell("idle")
        else:
            self.row(self.runner)
        self.turns = self.turns.passed()
        for change in self.later:
            change()
        return tuple(self.events)

    def tell(self, *told):
        self.events.append((self.tick, *told))

    def result(self, at, told):
        self.threads[at].registers[0] = told
        self.tell("result", at, told)

    def task(self, at):
        return self.turns.threads[at][0]

    def look(self, task, address, letter):
        """(frame, word) of an address that is let this letter."""
        if address > 255:
            return None
        found = page_at(self.spaces, task, address // 16)
        return (found[0], address % 16) if found and letter in found[1] else None

    def get(self, spot):
        return self.words.get(spot[0], [0] * 16)[spot[1]]

    def put(self, spot, word):
        self.words.setdefault(spot[0], [0] * 16)[spot[1]] = word

    # How turns follow.

    def stand(self, at, wanted):
        """wanted: "row", "rest", or the thread for which it waits."""
        def change():
            link = dict(self.turns.waits).get(at, dict(self.turns.calls).get(at))
            now = "row" if at in self.turns.row else ("rest" if link is None else link)
            if now == wanted:
                return
            if now != "row":
                self.turns = self.turns.ready(at)
            if wanted == "rest":
                self.turns = self.turns.rest(at)
            elif wanted != "row":
                self.turns = self.turns.wait(at, wanted)
        self.later.append(change)

    def called(self, at, other):
        def change():
            for one, to in self.turns.calls:
                if to == other:
                    self.turns = self.turns.ready(one).wait(one, other)
            self.turns = self.turns.call(at, other)
        self.later.append(change)

    def replied(self, at, other):
        """Whether it stays is known once its deed is over, so it is asked as turns change."""
        def change():
            if (other, at) in self.turns.calls:
                self.turns = self.turns.reply(at, self.threads[at].wait is None)
            else:
                self.turns = self.turns.ready(other)
        self.later.append(change)

    # Waits.

    def takes(self, at, gate):
        wait = self.threads[at].wait
        return bool(wait) and wait["kind"] == "receives" and wait["from"] in ("any", gate)

    def end(self, at, why):
        """A wait ends without a meeting."""
        one = self.threads[at]
        half = "send" if one.wait["kind"] == "sends" else "receive"
        for other in self.threads:
            if other.owes == at and why != "lost":
                other.owes = None
        faulted = one.fault
        one.wait = one.meant = one.items = one.fault = None
        if faulted:
            self.tell("rests", at)
            self.stand(at, "rest")
        else:
            self.result(at, 7 if why == "lost" else NUMBERS[why, half])
            self.stand(at, "row")

    def over(self, at, gate):
        """The gate over which a message of this thread for that gate goes."""
        task, other = self.task(at), self.task(self.owners[gate])
        return gate if straight(self.clans, task, other) else self.borders.get(next_stop(self.clans, task, other))

    def send(self, at, gate, badge, words, limit, then, later):
        """The first half over a gate."""
        owner = self.owners[gate]
        one = self.threads[at]
        one.wait = {"kind": "sends", "gate": gate, "badge": badge, "words": tuple(words), "since": self.tick,
                    "till": None if limit is None else self.tick + limit, "then": then, "limit": 0 if then is None else later}
        if self.takes(owner, gate):
            self.take_from(at)
        elif limit == 0:
            self.end(at, "late")
        else:
            self.stand(at, "rest" if owner == at else owner)

    def take_from(self, at):
        """The owner of its gate takes what a thread sends, and this one goes on."""
        one, wait = self.threads[at], self.threads[at].wait
        owner = self.owners[wait["gate"]]
        one.wait = None
        calls = wait["then"] == "reply"
        asks = calls and wait["limit"] != 0
        self.met("called" if calls else "sent", at, owner, wait["gate"], wait["badge"], wait["words"], wait["then"], asks)
        one.meant = None
        if calls and asks:
            lost = self.threads[owner].owes
            self.threads[owner].owes = at
            one.wait = {"kind": "receives", "from": "reply", "since": self.tick, "till": None if wait["limit"] is None else self.tick + wait["limit"]}
            if lost is not None:
                self.end(lost, "lost")
        else:
            self.go_on(at, wait["then"], wait["limit"])

    def go_on(self, at, then, limit):
        one = self.threads[at]
        if then is None:
            one.items = None
            return
        if then == "reply":
            one.wait = {"kind": "receives"}
            self.end(at, "late")
            return
        found = [(-other.priority, other.wait["since"], number) for number, other in enumerate(self.threads)
                 if other.wait and other.wait["kind"] == "sends" and self.owners[other.wait["gate"]] == at and then in ("any", other.wait["gate"])]
        if found:
            self.take_from(min(found)[2])
            return
        one.wait = {"kind": "receives", "from": then, "since": self.tick, "till": None if limit is None else self.tick + limit}
        if limit == 0:
            self.end(at, "late")
        else:
            self.stand(at, "rest")

    # Meetings.

    def met(self, kind, sender, receiver, gate, badge, words, then=None, asks=False):
        self.tell("met", kind, sender, receiver, gate, badge, words)
        came, whole = (0, 0) if kind == "device" else self.items(sender, receiver)
        told = 10 if came < whole else 0
        taker = self.threads[receiver]
        taker.wait = None
        rests = False
        if taker.fault:
            rests = self.answer(receiver, words)
        else:
            taker.registers = [told, 65535 if badge is None else badge, (15 if gate is None else gate) + 16 * came, *words, 0]
            meant = self.threads[sender].meant if gate is not None and sender is not None else None
            if meant:
                taker.registers[7] = 32768 + 16 * meant[0] + meant[1]
                taker.passing = (meant[0], badge, meant[1])
                self.tell("passing", receiver, *taker.passing)
        taker.items = taker.fault = None
        if sender is not None and then is None:
            self.result(sender, told)
        if asks and sender == self.runner:
            self.called(sender, receiver)
            return
        if kind == "replied":
            self.replied(sender, receiver)
        self.stand(receiver, "rest" if rests else "row")
        if kind == "sent" and then is None:
            self.stand(sender, "row")

    def answer(self, at, words):
        one = self.threads[at]
        trap = one.fault[0] == "trap"
        if one.fault[0] == "page":
            return False
        if words[0] == 0:
            one.place = (one.place + (0 if trap else 1)) % 256
        elif words[0] == 1:
            one.place = (one.place - (1 if trap else 0)) % 256
        elif words[0] == 2 and words[1] < 256:
            one.place = words[1]
        else:
            self.tell("rests", at)
            return True
        return False

    def items(self, sender, receiver):
        """What goes over besides: (words that came, words of the string)."""
        giver, taker = self.task(sender), self.task(receiver)
        sent, taken = self.rows(self.threads[sender].items), self.rows(self.threads[receiver].items)
        fault = self.threads[receiver].fault
        if fault:
            taken = {6: [(6, 32 * (fault[2] // 16) + 1, 0, 0)]} if fault[0] == "page" else {}
        came = whole = 0
        if 1 in sent:
            _, start, whole, _ = sent[1][0]
            _, goal, room, _ = taken[5][0] if 5 in taken else (5, 0, 0, 0)
            while came < min(whole, room):
                source, target = self.look(giver, start + came, "r"), self.look(taker, goal + came, "w")
                if source is None or target is None:
                    break
                self.put(target, self.get(source))
                came += 1
            if came:
                self.tell("string", sender, receiver, came)
        if 6 in taken:
            before = self.spaces.pages
            for kind, block, letters, spot in sent.get(2.5, []):
                deed = self.spaces.mapped if kind == 2 else self.spaces.granted
                self.spaces = deed(giver, divmod(block, 32), taker, divmod(taken[6][0][1], 32), spot, LETTERS[letters])
            self.pages(before)
        if 4 in sent and 7 in taken:
            _, place, letters, badge = sent[4][0]
            try:
                later = self.rights.handed(giver, place, taker, taken[7][0][1], OF_RIGHTS[letters], None if badge == 65535 else badge)
                self.tell("rights", (self.rights.next,))
                self.rights = later
            except ValueError:
                pass
        return came, whole

    def rows(self, words):
        """Rows by their kinds, those of pages in their sequence at 2.5."""
        found = {}
        for at in range(0, len(words or ()) - 1, 4):
            found.setdefault(2.5 if words[at] in (2, 3) else words[at], []).append(tuple(words[at:at + 4]))
        return found

    def pages(self, before):
        one, other = {page[:2]: page[2:] for page in before}, {page[:2]: page[2:] for page in self.spaces.pages}
        places = tuple(sorted(place for place in set(one) | set(other) if one.get(place) != other.get(place)))
        if places:
            self.tell("pages", places)

    # Rows, faults, calls.

    def row(self, at):
        one, task = self.threads[at], self.task(at)
        place = one.place
        spot = self.look(task, place, "x")
        if spot is None:
            return self.fault(at, ("page", "x", place), 3, place)
        word = self.get(spot)
        row = row_of(word)
        if row is None:
            return self.fault(at, ("row", word), 5, word)
        name, behind = row[0], (place + 1) % 256
        regs = one.registers
        if name in ("div", "rem") and regs[row[2]] == 0:
            return self.fault(at, ("nought", place), 6, place)
        if name in ("load", "store"):
            meant = (regs[row[2]] + row[3]) % 65536
            if meant > 255:
                return self.fault(at, ("beyond", meant), 4, meant)
            letter = "r" if name == "load" else "w"
            spot = self.look(task, meant, letter)
            if spot is None:
                return self.fault(at, ("page", letter, meant), "rw".index(letter) + 1, meant)
            if name == "load":
                regs[row[1]] = self.get(spot)
            else:
                self.put(spot, regs[row[1]])
        elif name not in ("call", "trap"):
            return self.other_row(at, row, behind)
        self.tell("row", at, place)
        one.place = behind
        if name == "call":
            self.tell("call", at, row[1])
            told = self.call(at, row[1])
            if told is not None:
                self.result(at, told)
        if name == "trap":
            self.fault(at, ("trap", row[1]), 7, row[1], place)

    def other_row(self, at, row, behind):
        from clankernel.cells import Cell, does
        from clankernel.rows import word_of
        one = self.threads[at]
        told = does(Cell(tuple(one.registers), one.place), word_of(row), None)
        if told[0] == "fault":
            return self.fault(at, told[1:], 4, told[2])
        self.tell("row", at, one.place)
        one.registers, one.place = list(told[1].registers), told[1].place

    def fault(self, at, fault, code, value, place=None):
        one = self.threads[at]
        place = one.place if place is None else place
        self.tell("fault", at, fault)
        door = one.doors[0 if fault[0] == "page" else 1]
        right = None if door is None else self.right(at, door)
        gate = None
        if right and right[3][0] == "g":
            gate = self.over(at, int(right[3][1:]))
        if gate is None:
            self.tell("rests", at)
            self.stand(at, "rest")
            return
        one.fault = fault
        if gate != int(right[3][1:]):
            one.meant = (int(right[3][1:]), self.task(at))
        self.send(at, gate, right[5], (code, value, place, 0), None, "reply", None)

    def right(self, at, place):
        found = [row for row in self.rights.rows if row[1:3] == (self.task(at), place)]
        return found[0] if found else None

    def call(self, at, kind):
        calls = {0: self.message, 1: self.unmap, 2: self.change, 3: self.control}
        if kind == 4:
            def change():
                self.turns = self.turns.give_way(at)
            self.later.append(change)
            return 0
        return calls[kind](at, *self.threads[at].registers) if kind in calls else 11

    def message(self, at, to, source, limits, one, two, three, four, address):
        thread = self.threads[at]
        if not (to < 16 or to in (253, 254, 255)) or source > 255 or (source == 253 and to in (254, 255)) or address > 255:
            return 11
        items = self.read_items(self.task(at), address) if address else None
        if items == "bad":
            return 11
        if source < 253 and (source >= len(self.owners) or self.owners[source] != at):
            return 8
        if to == 255 and source == 255:
            return 0
        first, second = [None if limit == 255 else limit for limit in divmod(limits, 256)]
        then = {253: "reply", 254: "any", 255: None}.get(source, source)
        words = (one, two, three, four)
        if to == 255:
            thread.items = items
            self.go_on(at, then, second)
            return None
        if to == 254:
            if thread.owes is None:
                return 8
            thread.items = items
            other, thread.owes = thread.owes, None
            self.met("replied", at, other, None, None, words, then)
            self.go_on(at, then, second)
            return None
        if to == 253:
            meant = thread.passing
        else:
            right = self.right(at, to)
            meant = (int(right[3][1:]), right[5], self.task(at)) if right and right[3][0] == "g" else None
        if meant is None:
            return 8
        gate = self.over(at, meant[0])
        if gate is None:
            return 9
        if to == 253:
            thread.passing = None
        thread.items = items
        if gate != meant[0]:
            thread.meant = (meant[0], meant[2])
        self.send(at, gate, meant[1], words, first, then, second)
        return None

    def read_items(self, task, address):
        """The words of rows of items up to their 0, "bad" for what is none."""
        words, kinds = [], []
        while True:
            row = []
            for more in range(4):
                spot = self.look(task, address + len(words) + more, "r")
                if spot is None:
                    return "bad"
                row.append(self.get(spot))
                if more == 0 and row[0] == 0:
                    return tuple(words + [0])
            kind, one, two, three = row
            block = one // 32 < 16 and one % 32 in (1, 2, 4, 8, 16) and one // 32 % (one % 32) == 0
            fine = {1: one < 256 and 1 <= two <= 16 and three == 0, 5: one < 256 and 1 <= two <= 16 and three == 0, 2: block and 1 <= two <= 7 and three < 16,
                    3: block and 1 <= two <= 7 and three < 16, 4: one < 16 and two in OF_RIGHTS and (three <= 999 or three == 65535), 6: block and two == three == 0,
                    7: one < 16 and two == three == 0}.get(kind, False)
            kinds.append(2 if kind == 3 else kind)
            if not fine or kinds.count(kinds[-1]) > (2 if kinds[-1] == 2 else 1):
                return "bad"
            words += row

    def unmap(self, at, block, letters, own, *_):
        first, size = divmod(block, 32)
        if first > 15 or size not in (1, 2, 4, 8, 16) or first % size or not 1 <= letters <= 7 or own > 1:
            return 11
        before = self.spaces.pages
        self.spaces = self.spaces.unmapped(self.task(at), (first, size), LETTERS[letters], bool(own))
        self.pages(before)
        return 0

    def change(self, at, how, place, to, told, *_):
        if how > 4 or place > 15 or (how <= 2 and to > 15) or (how == 0 and told not in range(1, 8)) or (how == 1 and told > 999):
            return 11
        right = self.right(at, place)
        if right is None:
            return 8
        task = self.task(at)
        deeds = {0: lambda: self.rights.copied(task, place, to, OF_RIGHTS.get(told, "?")), 1: lambda: self.rights.minted(task, place, to, told),
                 2: lambda: self.rights.moved(task, place, to), 3: lambda: self.rights.dropped(task, place), 4: lambda: self.rights.taken_back(task, place)}
        try:
            later = deeds[how]()
        except ValueError:
            return 13
        self.set_rights(later)
        return 0

    def set_rights(self, later):
        one, other = {row[:3] for row in self.rights.rows}, {row[:3] for row in later.rows}
        self.rights = later
        numbers = tuple(sorted({row[0] for row in one ^ other}))
        if numbers:
            self.tell("rights", numbers)

    def control(self, at, how, place, other, one, two, *_):
        if how > 2 or (place > 15 and place != 255) or (how == 2 and place == 255):
            return 11
        if how < 2 and other > 7 or how == 0 and (255 < one < 65535 or two > 2) or how == 1 and any(door > 15 and door != 255 for door in (one, two)):
            return 11
        task = self.task(at)
        if place != 255:
            right = self.right(at, place)
            if right is None or right[3][0] != "t":
                return 8
            task = int(right[3][1:])
        if how == 2:
            return self.kill(at, task)
        if other >= len(self.threads) or self.task(other) != task or self.threads[other].gone:
            return 13
        thread = self.threads[other]
        if how == 1:
            thread.doors = [None if door == 255 else door for door in (one, two)]
            return 0
        if two < 2:
            if thread.wait and not thread.fault:
                self.end(other, "broken")
            elif thread.wait:
                for debtor in self.threads:
                    debtor.owes = None if debtor.owes == other else debtor.owes
                thread.wait = thread.fault = thread.meant = None
            self.stand(other, "rest" if two == 0 else "row")
        if one != 65535:
            thread.place = one
        return 0

    def kill(self, at, task):
        if task == 0:
            return 13
        tasks = [task]
        for other in self.clans.tasks:
            if self.clans.chief(other) in tasks:
                tasks.append(other)
        tasks = tuple(sorted(tasks))
        threads = tuple(number for number in range(len(self.threads)) if self.task(number) in tasks)
        gates = tuple(gate for gate, owner in enumerate(self.owners) if owner in threads)
        ends = {}
        for number, one in enumerate(self.threads):
            if number in threads or not one.wait:
                continue
            debtor = [other for other in threads if self.threads[other].owes == number]
            if one.wait["kind"] == "sends" and one.wait["gate"] in gates:
                ends[number] = 3
            elif debtor:
                ends[number] = 4
        for number in ends:
            one = self.threads[number]
            ends[number] = None if one.fault else ends[number]
            one.wait = one.fault = one.meant = one.items = None
        for one in self.threads:
            one.owes = None if one.owes in threads else one.owes
            one.passing = None if one.passing and one.passing[0] in gates else one.passing
            one.meant = None if one.meant and one.meant[0] in gates else one.meant
        for number in threads:
            one = self.threads[number]
            one.gone, one.wait = True, None
            one.owes = one.passing = one.meant = one.items = one.fault = None
        self.tell("killed", tasks)
        before = self.spaces.pages
        self.spaces = self.spaces.gone(tasks)
        self.pages(before)
        self.set_rights(self.rights.gone(tasks))
        self.devices, self.clans = self.devices.gone(gates), self.clans.killed(task)
        self.borders = {other: gate for other, gate in self.borders.items() if other not in tasks}

        def change():
            self.turns = self.turns.gone(threads)
        self.later.append(change)
        if at not in threads:
            ends[at] = 0
        for number in sorted(ends):
            if ends[number] is None:
                self.tell("rests", number)
                self.stand(number, "rest")
            else:
                self.result(number, ends[number])
                self.stand(number, "row")
        return None
