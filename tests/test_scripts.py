"""Points 65 to 67: scripts and their texts."""

from itertools import product

from everybowl.desks import Desk
from everybowl.errors import BowlError, NothingUndone, Refused, WrongCount, WrongLine
from everybowl.floors import Floor
from everybowl.scripts import read_script, run_script, write_script
from tests.desks import drawn_steps, history, refused_with, state
from tests.heights import DEEP, HIGH, HUGE, bowl_heights
from tests.helpers import FAR, NESTED, SAMPLE, Case

GOOD = [("add", 5, 7, 99), ("lift", 0, 5), ("undo",), ("move", 4, 6, 7), ("drop", 1), ("undo",), ("redo",),
        ("lift", 0, -3), ("undo",), ("undo",)]
REFUSED = [("add", 0, 0, 0), ("add", FAR + 1, 0, 0), ("add", 0, 0, HIGH + 1), ("drop", -1), ("drop", 77),
           ("move", 99, 0, 0), ("move", 0, 0, -FAR - 1), ("lift", -5, 0), ("lift", 0, HUGE), ("redo",)]


def sample_desk():
    """A desk with deeds that can be undone and done again."""
    desk = Desk(Floor(SAMPLE), DEEP)
    for height in (5, 6, 7, 9):
        desk.lift(0, height)
    desk.add(-3, 8, 1)
    desk.drop(4)
    desk.set_limit(9)
    desk.undo()
    desk.undo()
    return desk


def run(steps, whole):
    """What a script does to a new sample desk: the error, what is left, and the desk."""
    desk = sample_desk()
    return refused_with(lambda: run_script(desk, steps, whole=whole)), history(desk), desk


def by_hand(steps):
    """The desk after steps that are done one by one."""
    desk = sample_desk()
    for word, *numbers in steps:
        getattr(desk, word)(*numbers)
    return desk


class RunScript(Case):
    def test_all_steps(self):
        for count in range(len(GOOD) + 1):
            for whole in (False, True):
                for steps in (GOOD[:count], tuple(GOOD[:count])):
                    got, past, desk = run(steps, whole)
                    self.same(got, count)
                    self.same(past, history(by_hand(steps)))
                    self.same(desk.running, False)

    def test_what_add_is_passed(self):
        for whole in (False, True):
            desk = sample_desk()
            self.same(run_script(desk, [("drop", 3), ("add", 5, -7, 99)], whole=whole), 2)
            self.same([desk.raised.floor.points[-1], desk.raised.heights[-1]], [(5, -7), 99])
            for step in (("add", FAR + 1, 0, 0), ("add", 0, -FAR - 1, 0), ("add", 9, 9, HIGH + 1)):
                before = history(desk)
                self.refuses(Refused(0), lambda: run_script(desk, [step], whole=whole))
                self.same(history(desk), before)
            self.same(run_script(desk, [("add", FAR, -FAR, HIGH)], whole=whole), 1)

    def test_a_refused_step_at_each_place(self):
        for place in range(len(GOOD)):
            for bad in REFUSED:
                if bad == ("redo",) and by_hand(GOOD[:place]).undone:
                    continue
                steps = [*GOOD[:place], bad, *GOOD[place:]]
                got, past, _ = run(steps, False)
                self.same([got.__class__, got.place], [Refused, place])
                self.same(past, history(by_hand(GOOD[:place])))
                got, past, _ = run(tuple(steps), True)
                self.same([got.__class__, got.place], [Refused, place])
                self.same(past, history(sample_desk()))

    def test_what_each_error_becomes(self):
        desk = sample_desk()
        for steps in ([("drop", 9)], [("move", 3, 0, 0)], [("lift", 0, HIGH + 1)], [("add", 1, 1, 1)]):
            self.refuses(Refused(0), run_script, desk, steps)
        three = Desk(Floor(SAMPLE[:3]), [1, 2, 3])
        for step in (("drop", 0), ("undo",), ("redo",)):
            self.refuses(Refused(0), run_script, three, [step])
        three.set_limit(3)
        self.refuses(Refused(1), run_script, three, [("lift", 0, 5), ("add", 9, 9, 9)])
        self.same([three.raised.heights, three.done], [(5, 2, 3), 1])

    def test_steps_that_take_back_earlier_deeds(self):
        """A trial also brings back what its steps had taken back or removed."""
        start = history(sample_desk())
        count = sample_desk().done
        for steps in ([("undo",)] * count, [("redo",)], [("undo",), ("lift", 1, 33)], [("redo",), ("redo",)],
                      [("undo",), ("undo",), ("drop", 0)]):
            got, past, _ = run([*steps, ("drop", 99), ("lift", 0, 1)], True)
            self.same([got.__class__, got.place, past], [Refused, len(steps), start])
            got, past, _ = run([*steps, ("drop", 99), ("lift", 0, 1)], False)
            self.same([got.place, past], [len(steps), history(by_hand(steps))])

    def test_after_a_trial_the_desk_goes_on(self):
        desk = sample_desk()
        self.refuses(Refused(2), lambda: run_script(desk, [("undo",), ("lift", 0, 44), ("drop", -1)], whole=True))
        desk.redo()
        desk.redo()
        self.refuses(NothingUndone(), desk.redo)
        self.same(run_script(desk, [("undo",), ("undo",), ("lift", 0, 44)], whole=True), 3)
        self.same([desk.raised.heights[0], desk.undone], [44, 0])

    def test_the_limit_stays(self):
        for limit in (4, 9):
            for whole in (False, True):
                desk = sample_desk()
                desk.set_limit(limit)
                self.refuses(Refused(1), lambda: run_script(desk, [("redo",), ("drop", 55)], whole=whole))
                self.same(desk.limit, limit)

    def test_random_scripts(self):
        refused = 0
        for seed in range(60):
            floor = Floor(NESTED[:3 + seed % 6])
            first, second = [Desk(floor, bowl_heights(floor, seed)) for _ in "ab"]
            for part in range(3):
                steps, place = drawn_steps(seed * 3 + part, len(floor), 6 + seed % 7), None
                whole, before = (seed + part) % 2 == 0, history(second)
                for at, (word, *numbers) in enumerate(steps):
                    if isinstance(refused_with(getattr(second, word), *numbers), BowlError):
                        place = at
                        break
                got = refused_with(lambda: run_script(first, steps, whole=whole))
                if place is None:
                    self.same(got, len(steps))
                else:
                    self.same([got.__class__, got.place], [Refused, place])
                    refused += 1
                self.same(history(first), before if whole and place is not None else history(second))
                first, second = second, first
                if history(first) != history(second):
                    break
        self.assertTrue(refused > 30)

    def test_number_of_steps(self):
        for whole in (False, True):
            desk = sample_desk()
            before = history(desk)
            self.refuses(WrongCount(61), lambda: run_script(desk, [("lift", 0, k) for k in range(61)], whole=whole))
            self.refuses(WrongCount(200), lambda: run_script(desk, (("undo",),) * 200, whole=whole))
            self.same([history(desk), desk.running], [before, False])
            self.same(run_script(desk, [("lift", 0, 90 + k) for k in range(60)], whole=whole), 60)
            self.same([desk.done, desk.raised.heights[0]], [64, 149])
            self.same(run_script(desk, [], whole=whole), 0)
            self.same(run_script(desk, (), whole=whole), 0)

    def test_whole_is_false_by_itself(self):
        desk = sample_desk()
        self.refuses(Refused(1), run_script, desk, [("lift", 0, 77), ("drop", 9)])
        self.same(desk.raised.heights[0], 77)
        with self.assertRaises(TypeError):
            run_script(desk, [], True)

    def test_running(self):
        seen = []

        class Watched(Desk):
            def lift(self, number, height):
                seen.append(self.running)
                super().lift(number, height)

        for whole in (False, True):
            desk = Watched(Floor(SAMPLE), DEEP)
            self.same(desk.running, False)
            run_script(desk, [("lift", 0, 1), ("lift", 1, 22)], whole=whole)
            self.same(desk.running, False)
            self.refuses(Refused(1), lambda: run_script(desk, [("lift", 0, 1), ("lift", 9, 2)], whole=whole))
            self.same(desk.running, False)
            self.refuses(WrongCount(61), lambda: run_script(desk, [("undo",)] * 61, whole=whole))
            self.same(desk.running, False)
        self.same(seen, [True] * 8)

    def test_lists_stay(self):
        steps = list(GOOD)
        run_script(sample_desk(), steps)
        self.same(steps, GOOD)

    def test_two_desks(self):
        first, second = sample_desk(), sample_desk()
        before = state(second)
        run_script(first, GOOD)
        self.same(state(second), before)


class WriteScript(Case):
    def test_word_for_word(self):
        self.same(write_script([]), "")
        self.same(write_script(()), "")
        self.same(write_script([("add", 1, -2, 30), ("drop", 0), ("move", 3, -4, 5), ("lift", 6, -7), ("undo",),
                                ("redo",)]),
                  "add 1 -2 30\ndrop 0\nmove 3 -4 5\nlift 6 -7\nundo\nredo")
        self.same(write_script((("undo",),)), "undo")

    def test_long_integers_and_many_steps(self):
        long = 10 ** 400 - 1
        self.same(write_script([("lift", -long, long)]), f"lift -{'9' * 400} {'9' * 400}")
        self.same(write_script([("undo",)] * 1000), "\n".join(["undo"] * 1000))

    def test_there_and_back(self):
        for seed in range(20):
            steps = [step for step in drawn_steps(seed, 9, 60) if all(abs(part) < 10 ** 16 for part in step[1:])]
            self.same(read_script(write_script(steps)), steps)
            self.same(read_script(write_script(tuple(steps))), steps)


class ReadScript(Case):
    def test_forms(self):
        self.same(read_script(""), [])
        self.same(read_script("undo"), [("undo",)])
        self.same(read_script("add 0 -1 22\nmove 9 8 7\nlift 99 -5\ndrop 3\nredo\nundo"),
                  [("add", 0, -1, 22), ("move", 9, 8, 7), ("lift", 99, -5), ("drop", 3), ("redo",), ("undo",)])
        self.same(read_script(f"drop -{'9' * 16}\nlift {'1' * 16} 0"),
                  [("drop", 1 - 10 ** 16), ("lift", int("1" * 16), 0)])
        self.new_each_time(read_script, "undo\nredo")
        self.new_each_time(read_script, "")

    def test_many_lines(self):
        self.same(read_script("\n".join(["lift 1 2"] * 1000)), [("lift", 1, 2)] * 1000)
        self.refuses(WrongLine(1001), read_script, "\n".join(["lift 1 2"] * 1000 + ["lift 1"]))

    def test_wrong_lines(self):
        good = ["add 1 2 3", "undo", "drop 4", "redo", "move 1 2 3", "lift 5 6"]
        wrong = ["", " ", "undo ", " undo", "undo 1", "redo 0", "redo  ", "Undo", "UNDO", "undone", "add", "add ",
                 "add 1 2", "add 1 2 3 4", "add 1  2 3", "add 1 2 3 ", " add 1 2 3", "drop", "drop ", "drop 1 2",
                 "drop x", "move 1 2", "move 1 2 3 4", "lift 1", "lift 1 2 3", "lift 1 ", "lift  1", "jump 1", "1",
                 "drop +1", "drop 01", "drop -0", "drop 00", "drop -01", "drop 1.0", "drop 1,0", "drop 1_0", "drop -",
                 "drop --1", f"drop {'1' * 17}", f"drop -{'1' * 17}", f"lift 1 0{'1' * 15}", "drop 1\\n", "drop\t1"]
        for line in wrong:
            if line:
                self.refuses(WrongLine(1), read_script, line)
            for place in range(len(good) + 1):
                lines = [*good[:place], line, *good[place:]]
                self.refuses(WrongLine(place + 1), read_script, "\n".join(lines))
                self.refuses(WrongLine(place + 1), read_script, "\n".join([*lines, "jump"]))
        self.refuses(WrongLine(1), read_script, "\n")
        self.refuses(WrongLine(2), read_script, "undo\n")
        self.refuses(WrongLine(1), read_script, "\nundo")

    def test_words_with_other_numbers_of_integers(self):
        counts = {"add": 3, "drop": 1, "move": 3, "lift": 2, "undo": 0, "redo": 0}
        for word, count in product(counts, range(6)):
            line = " ".join([word, *["7"] * count])
            if count == counts[word]:
                self.same(read_script(line), [(word, *[7] * count)])
            else:
                self.refuses(WrongLine(1), read_script, line)
