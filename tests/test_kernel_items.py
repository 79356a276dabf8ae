"""What goes over at meetings: strings, pages, rights; results 0 and 10, and what is left out."""

import unittest

from helpers import Checks
from stage import CODE, PAGES, RIGHTS, by_place, edited, limits, receiving, sixteen, stage, told_by
from clankernel.images import image

W = (11, 12, 13, 14)
TEXT = [41, 42, 43, 44, 45, 46, 47, 48, 49, 50, 51, 52, 53, 54, 55, 56]


# Task 1 has frame 2 at page 1 (its items), frame 7 at page 3; task 2 frame 3 at page 1 (its items), frame 8 at page 3.
MORE = by_place(PAGES + ["page 1 3 rw 0 7", "page 2 3 rw 0 8"])


class ItemsTest(unittest.TestCase, Checks):
    def sent(self, told, taken, text=TEXT, pages=MORE, words=(), rights=RIGHTS, source=254):
        """Thread 1 sends with these items to thread 2, which told those: (kernel, events)."""
        frames = {2: sixteen(*told), 3: sixteen(*taken), 7: text}
        frames.update(words)
        kernel = receiving(stage(words=frames, pages=pages, rights=rights), 2, source, items=16)
        kernel, events = told_by(kernel, 1, 0, 2, 255, 0, *W, 16)
        self.same(events[0], ("met", "sent", 1, 2, 2, 102, W))
        return kernel, events[1:]


class StringsTest(ItemsTest):
    def test_a_string_comes(self):
        for many in (1, 5, 16):
            kernel, events = self.sent((1, 48, many, 0), (5, 48, 16, 0))
            self.same(events, (("string", 1, 2, many), ("result", 1, 0)))
            self.same(kernel.cell(2).registers, (0, 102, 2 + 16 * many, *W, 0))
            self.same([kernel.word(8, at) for at in range(16)], TEXT[:many] + [0] * (16 - many))
            self.same([kernel.word(7, at) for at in range(16)], TEXT)
            self.assertEqual(kernel.cell(1).registers[0], 0)

    def test_a_buffer_that_is_too_small(self):
        for many, room in ((16, 15), (2, 1), (9, 4)):
            kernel, events = self.sent((1, 48, many, 0), (5, 48, room, 0))
            self.same(events, (("string", 1, 2, room), ("result", 1, 10)))
            self.same(kernel.cell(2).registers[:3], (10, 102, 2 + 16 * room))
            self.assertEqual(kernel.cell(1).registers[0], 10)
            self.same([kernel.word(8, at) for at in range(16)], TEXT[:room] + [0] * (16 - room))

    def test_no_buffer(self):
        for taken in ((0,), (6, 33, 0, 0), (7, 9, 0, 0)):
            kernel, events = self.sent((1, 48, 3, 0), taken)
            self.same(events, (("result", 1, 10),))
            self.same(kernel.cell(2).registers[:3], (10, 102, 2))

    def test_no_string(self):
        kernel, events = self.sent((0,), (5, 48, 3, 0))
        self.same((events, kernel.cell(2).registers[:3]), ((("result", 1, 0),), (0, 102, 2)))
        # What a sender has told to receive, and a receiver to send, does not matter.
        kernel, events = self.sent((5, 48, 3, 0, 6, 33, 0, 0, 7, 9), (1, 48, 3, 0))
        self.same((events, kernel.cell(2).registers[:3]), ((("result", 1, 0),), (0, 102, 2)))

    def test_at_the_edge_of_readable_and_writable_pages(self):
        # Task 1 can read up to 63; task 2 write up to 63: in page 4 there is nothing.
        kernel, events = self.sent((1, 60, 9, 0), (5, 48, 9, 0))
        self.same(events, (("string", 1, 2, 4), ("result", 1, 10)))
        kernel, events = self.sent((1, 48, 9, 0), (5, 61, 9, 0))
        self.same(events, (("string", 1, 2, 3), ("result", 1, 10)))
        self.same([kernel.word(8, at) for at in (12, 13, 14, 15)], [0, 41, 42, 43])
        for told, taken in (((1, 64, 9, 0), (5, 48, 9, 0)), ((1, 48, 9, 0), (5, 64, 9, 0)), ((1, 48, 9, 0), (5, 0, 9, 0))):
            _, events = self.sent(told, taken)
            self.same(events, (("result", 1, 10),))

    def test_letters_that_reading_and_writing_need(self):
        for mine, yours, many in (("r", "w", 2), ("w", "w", 0), ("r", "r", 0), ("x", "rwx", 0), ("rwx", "rx", 0), ("rx", "wx", 2)):
            pages = by_place(PAGES + [f"page 1 3 {mine} 0 7", f"page 2 3 {yours} 0 8"])
            _, events = self.sent((1, 48, 2, 0), (5, 48, 2, 0), pages=pages)
            self.same(events, ((("string", 1, 2, 2), ("result", 1, 0)) if many else (("result", 1, 10),)))

    def test_beyond_255(self):
        pages = by_place(PAGES + ["page 1 15 rw 0 7", "page 2 15 rw 0 8"])
        _, events = self.sent((1, 250, 9, 0), (5, 240, 9, 0), pages=pages)
        self.same(events, (("string", 1, 2, 6), ("result", 1, 10)))
        kernel, events = self.sent((1, 240, 9, 0), (5, 255, 9, 0), pages=pages)
        self.same(events, (("string", 1, 2, 1), ("result", 1, 10)))
        self.same((kernel.word(8, 15), kernel.word(0, 0), kernel.word(8, 0)), (41, CODE[0], 0))

    def test_over_shared_frames(self):
        # Both have frame 6 at page 2: words that were written are read later.
        kernel, events = self.sent((1, 32, 6, 0), (5, 34, 6, 0), words={6: TEXT})
        self.same(events, (("string", 1, 2, 6), ("result", 1, 0)))
        self.same([kernel.word(6, at) for at in range(16)], [41, 42] * 4 + TEXT[8:])
        kernel, _ = self.sent((1, 34, 6, 0), (5, 32, 6, 0), words={6: TEXT})
        self.same([kernel.word(6, at) for at in range(16)], TEXT[2:8] + TEXT[6:])

    def test_over_a_row_of_pages(self):
        pages = by_place(PAGES + ["page 1 3 rw 0 7", "page 2 3 rw 0 8", "page 2 4 w 0 9"])
        kernel, events = self.sent((1, 48, 8, 0), (5, 60, 16, 0), pages=pages)
        self.same(events, (("string", 1, 2, 8), ("result", 1, 0)))
        self.same([kernel.word(8, 12 + at) for at in range(4)] + [kernel.word(9, at) for at in range(5)], TEXT[:8] + [0])

    def test_by_a_reply_and_to_a_caller(self):
        """The items that a caller told serve both halves: its string goes out, its buffer takes the answer."""
        told = (1, 48, 2, 0, 5, 56, 3, 0)
        kernel = stage(words={2: sixteen(*told), 3: sixteen(5, 48, 2, 0, 0, 1, 48, 4, 0), 7: TEXT}, pages=MORE)
        kernel, _ = told_by(receiving(kernel, 2, items=16), 1, 0, 2, 253, limits(0, None), *W, 16)
        kernel, events = told_by(kernel, 2, 0, 254, 255, 0, *W, 21)
        # Four words for a room of three.
        self.same(events, (("met", "replied", 2, 1, None, None, W), ("string", 2, 1, 3), ("result", 2, 10)))
        self.same(kernel.cell(1).registers, (10, 65535, 15 + 48, *W, 0))
        self.same([kernel.word(7, at) for at in range(8, 12)], [41, 42, 0, 52])

    def test_a_sender_with_a_second_half_is_not_told_that_it_was_cut(self):
        kernel = stage(words={2: sixteen(1, 48, 2, 0), 7: TEXT}, pages=MORE)
        kernel, events = told_by(receiving(kernel, 2), 1, 0, 2, 253, limits(0, None), *W, 16)
        self.same(events, (("met", "called", 1, 2, 2, 102, W),))
        self.same((kernel.cell(2).registers[0], kernel.cell(1).registers[0]), (10, 2))
        kernel, events = told_by(kernel, 2, 0, 254, 255, 0, *W)
        self.same((events[1:], kernel.cell(1).registers[0]), ((("result", 2, 0),), 0))
        # Late in its second half: this is its result, not 10.
        kernel, events = told_by(receiving(kernel, 2), 1, 0, 2, 254, 0, *W, 16)
        self.same(events[1:], (("result", 1, 2),))

    def test_what_items_mean_is_looked_up_at_the_meeting(self):
        kernel = stage(words={2: sixteen(1, 48, 3, 0), 3: sixteen(5, 48, 3, 0), 7: TEXT}, pages=MORE)
        kernel, _ = told_by(kernel, 1, 0, 2, 255, limits(None, 0), *W, 16)
        # The rows were read; the words are those that stand there now, and the page may have gone.
        later = edited(kernel, words={2: sixteen(), 7: TEXT[::-1]})
        later, events = told_by(later, 2, 0, 255, 254, 0, 0, 0, 0, 0, 16)
        self.same(events[1:], (("string", 1, 2, 3), ("result", 1, 0)))
        self.same([later.word(8, at) for at in range(4)], [56, 55, 54, 0])
        later, _ = told_by(kernel, 0, 1, 32 * 7 + 1, 1, 0)
        later, events = told_by(later, 2, 0, 255, 254, 0, 0, 0, 0, 0, 16)
        self.same(events[1:], (("result", 1, 10),))

    def test_items_are_told_in_images_while_it_waits(self):
        kernel, _ = told_by(stage(words={2: sixteen(1, 48, 3, 0), 3: sixteen()}), 1, 0, 2, 253, limits(2, None), *W, 16)
        self.assertIn("\nitems 1 1 48 3 0 0\n", image(kernel))
        kernel = receiving(kernel, 2, 0 + 6, items=16)
        self.assertIn("\nitems 1 1 48 3 0 0\nitems 2 0\n", image(kernel))
        kernel, _ = told_by(kernel, 0, 0, 6, 255, 0)
        self.assertNotIn("items 2", image(kernel))
        kernel.run(1)
        self.assertNotIn("items", image(kernel))

    def test_a_fault_and_a_device_bring_nothing_of_items(self):
        kernel = receiving(stage(words={3: sixteen(5, 48, 3, 0, 6, 33, 0, 0, 7, 9)}, pages=MORE, doors=["doors 1 2 2"]), 1, items=0)
        kernel.tell(0, 5)
        kernel.run(1)
        self.same(kernel.cell(1).registers[:3], (0, 70, 1))


class PagesTest(ItemsTest):
    def test_mapped(self):
        kernel, events = self.sent((2, 32 * 3 + 1, 3, 0), (6, 32 * 9 + 1, 0, 0))
        self.same(events, (("pages", ((2, 9),)), ("result", 1, 0)))
        self.assertIn((2, 9, 7, "rw"), kernel.spaces.pages)
        self.assertIn("\npage 2 9 rw 1 3\n", kernel.spaces.text + "\n")

    def test_granted(self):
        kernel, events = self.sent((3, 32 * 3 + 1, 1, 0), (6, 32 * 9 + 1, 0, 0))
        self.same(events, (("pages", ((1, 3), (2, 9))), ("result", 1, 0)))
        self.assertIn("\npage 2 9 r 0 7\n", kernel.spaces.text + "\n")

    def test_windows_of_other_sizes(self):
        # Pages 2 and 3 of task 1: frames 6 and 7. The hot spot tells where they come, or which of both.
        kernel, events = self.sent((2, 32 * 2 + 2, 1, 6), (6, 32 * 8 + 4, 0, 0))
        self.same(events[0], ("pages", ((2, 10), (2, 11))))
        self.same([page for page in kernel.spaces.pages if page[:2] in ((2, 10), (2, 11))], [(2, 10, 6, "r"), (2, 11, 7, "r")])
        for spot, frame in ((4, 6), (5, 7)):
            kernel, events = self.sent((2, 32 * 2 + 2, 1, spot), (6, 32 * 9 + 1, 0, 0))
            self.same(events[0], ("pages", ((2, 9),)))
            self.assertIn((2, 9, frame, "r"), kernel.spaces.pages)
        # Sixteen pages into sixteen: what has nothing, or no such letter, brings nothing.
        kernel, events = self.sent((2, 16, 2, 0), (6, 16, 0, 0))
        self.same([page for page in kernel.spaces.pages if page[0] == 2],
                  [(2, 0, 0, "rx"), (2, 1, 2, "w"), (2, 2, 6, "w"), (2, 3, 7, "w")])
        self.same(events[0], ("pages", ((2, 1), (2, 2), (2, 3))))

    def test_two_rows_one_behind_the_other(self):
        # Both into one window: the later one stays.
        kernel, events = self.sent((2, 32 * 3 + 1, 1, 0, 2, 32 * 2 + 1, 2, 0), (6, 32 * 9 + 1, 0, 0))
        self.same(events, (("pages", ((2, 9),)), ("result", 1, 0)))
        self.assertIn((2, 9, 6, "w"), kernel.spaces.pages)
        # Granted by the first row, there is nothing for the second one.
        kernel, events = self.sent((3, 32 * 3 + 1, 3, 0, 2, 32 * 3 + 1, 1, 1), (6, 32 * 8 + 2, 0, 0))
        self.same(events[0], ("pages", ((1, 3), (2, 8))))

    def test_nothing_that_changes_is_not_told(self):
        pages = by_place(PAGES + ["page 1 3 rw 0 7", "page 2 9 rw 1 3"])
        _, events = self.sent((2, 32 * 3 + 1, 3, 0), (6, 32 * 9 + 1, 0, 0), pages=pages)
        self.same(events, (("result", 1, 0),))
        # Another parent, the same frame and letters.
        pages = by_place(PAGES + ["page 1 3 rw 0 7", "page 2 9 rw 0 7"])
        kernel, events = self.sent((2, 32 * 3 + 1, 3, 0), (6, 32 * 9 + 1, 0, 0), pages=pages)
        self.same(events, (("result", 1, 0),))
        self.assertIn("\npage 2 9 rw 1 3\n", kernel.spaces.text + "\n")

    def test_no_window(self):
        kernel, events = self.sent((2, 32 * 3 + 1, 3, 0, 3, 32 * 2 + 1, 3, 0), (5, 48, 1, 0, 7, 9))
        self.same((events, kernel.spaces.text), ((("result", 1, 0),), stage(pages=MORE).spaces.text))


class RightsTest(ItemsTest):
    def test_handed(self):
        # Task 1 has at place 3 the right 10 to gate 3, with the badge 103.
        for letters, told in ((1, "s"), (3, "sg")):
            kernel, events = self.sent((4, 3, letters, 65535), (7, 9))
            self.same(events, (("rights", (43,)), ("result", 1, 0)))
            self.same(kernel.rights.rows[-1], (43, 2, 9, "g3", told, 103, 10))

    def test_with_a_new_badge(self):
        rights = [line.replace("g3 sg 103", "g3 sg -") for line in RIGHTS]
        for badge in (0, 7, 999):
            kernel, events = self.sent((4, 3, 1, badge), (7, 9), rights=rights)
            self.same(events[0], ("rights", (43,)))
            self.same(kernel.rights.rows[-1], (43, 2, 9, "g3", "s", badge, 10))
        # It has a badge already.
        _, events = self.sent((4, 3, 1, 7), (7, 9))
        self.same(events, (("result", 1, 0),))

    def test_what_is_refused_is_left_out(self):
        refused = [
            # Into a place that is held; of a place where none stands; letters that its thing does not have.
            ((4, 3, 1, 65535), (7, 2)), ((4, 12, 1, 65535), (7, 9)), ((4, 3, 4, 65535), (7, 9)), ((4, 3, 6, 65535), (7, 9)),
            # Of a right without g; no place told; no right told.
            ((4, 10, 4, 65535), (7, 9)), ((4, 3, 1, 65535), (5, 48, 1, 0)), ((5, 48, 1, 0), (7, 9)),
        ]
        for told, taken in refused:
            kernel, events = self.sent(told, taken)
            self.same(events, (("result", 1, 0),))
            self.assertEqual(kernel.rights.text, stage().rights.text)

    def test_with_the_greatest_number(self):
        rights = RIGHTS + ["right 9998 0 12 g0 s - -"]
        kernel, events = self.sent((4, 3, 1, 65535), (7, 9), rights=rights)
        self.same((events, len(kernel.rights.rows)), ((("result", 1, 0),), len(rights)))

    def test_of_a_task(self):
        rights = [line.replace("t3 c - -", "t3 cg - -") for line in RIGHTS]
        for letters, told in ((4, "c"), (6, "cg")):
            kernel, events = self.sent((4, 10, letters, 65535), (7, 9), rights=rights)
            self.same(kernel.rights.rows[-1], (43, 2, 9, "t3", told, None, 42))
        # A right to a task has no badge.
        _, events = self.sent((4, 10, 4, 5), (7, 9), rights=rights)
        self.same(events, (("result", 1, 0),))

    def test_within_one_task(self):
        kernel = receiving(stage(words={2: sixteen(7, 9, 0, 0, 0, 4, 3, 1, 65535)}), 1, items=16)
        kernel, events = told_by(kernel, 5, 0, 1, 255, 0, *W, 21)
        self.same(events[1:], (("rights", (43,)), ("result", 5, 0)))
        self.same(kernel.rights.rows[-1][1:4], (1, 9, "g3"))


class TogetherTest(ItemsTest):
    def test_all_in_their_sequence(self):
        told = (1, 48, 2, 0, 2, 32 * 3 + 1, 3, 0, 4, 3, 1, 65535, 0)
        taken = (5, 52, 2, 0, 6, 32 * 9 + 1, 0, 0, 7, 9, 0, 0, 0)
        kernel, events = self.sent(told, taken)
        self.same(events, (("string", 1, 2, 2), ("pages", ((2, 9),)), ("rights", (43,)), ("result", 1, 0)))
        self.same(kernel.cell(2).registers, (0, 102, 2 + 32, *W, 0))
        # The rows in any sequence.
        told = (4, 3, 1, 65535, 2, 32 * 3 + 1, 3, 0, 1, 48, 2, 0, 0)
        _, again = self.sent(told, (7, 9, 0, 0, 6, 32 * 9 + 1, 0, 0, 5, 52, 2, 0, 0))
        self.same(again, events)

    def test_a_string_goes_ahead_of_pages(self):
        """It is written where pages stood ahead, though other ones come there by the same message."""
        kernel, events = self.sent((1, 48, 2, 0, 3, 32 * 3 + 1, 3, 0), (5, 52, 2, 0, 6, 32 * 3 + 1, 0, 0))
        self.same(events, (("string", 1, 2, 2), ("pages", ((1, 3), (2, 3))), ("result", 1, 0)))
        self.same([kernel.word(8, at) for at in (4, 5)], [41, 42])
        self.same(kernel.read(2, 48), 41)

    def test_over_a_border_items_come_to_the_gate_that_is_met(self):
        kernel = receiving(stage(words={2: sixteen(5, 48, 2, 0, 7, 9), 4: sixteen(1, 20, 2, 0, 4, 2, 1, 65535, 0)}, pages=MORE), 1, items=16)
        kernel, events = told_by(kernel, 3, 0, 2, 255, 0, *W, 16)
        self.same(events, (("met", "sent", 3, 1, 5, 302, W), ("string", 3, 1, 2), ("rights", (43,)), ("passing", 1, 2, 302, 3), ("result", 3, 0)))
        self.same(kernel.rights.rows[-1], (43, 1, 9, "g2", "s", 302, 23))
        self.same(kernel.cell(1).registers[2:3], (5 + 32,))
        self.same([kernel.read(1, 48 + at) for at in (0, 1)], [4, 2])

    def test_in_each_of_several_meetings_of_one_tick(self):
        """2 replies with a string, then receives from 3 by 5 words of it, with the same items for both."""
        kernel = stage(words={2: sixteen(5, 48, 9, 0), 3: sixteen(1, 20, 1, 0, 5, 48, 9, 0), 4: sixteen(1, 16, 3, 0), 5: sixteen(1, 16, 2, 0)}, pages=MORE)
        kernel = receiving(kernel, 2)
        kernel, _ = told_by(kernel, 1, 0, 2, 253, limits(0, None), *W, 16)
        kernel, _ = told_by(edited(kernel, row=()), 4, 0, 2, 255, limits(None, 0), *W, 16)
        kernel, events = told_by(kernel, 2, 0, 254, 254, limits(0, 0), *W, 16)
        self.same(events, (("met", "replied", 2, 1, None, None, W), ("string", 2, 1, 1), ("met", "sent", 4, 2, 2, None, W), ("string", 4, 2, 2), ("result", 4, 0)))
        self.same(kernel.read(1, 48), 5)
        self.same([kernel.read(2, 48), kernel.read(2, 49)], [1, 16])


if __name__ == "__main__":
    unittest.main()
