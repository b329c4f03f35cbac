"""Commands in words: Console of rimorders.console."""

import random
import unittest

from desk_model import Model, drawn_deed
from rimorders.console import Console
from rimorders.desks import Desk
from rimorders.errors import (
    Broken, InUse, InvalidClaim, InvalidCommand, InvalidIndex, InvalidNumber, InvalidSighting, InvalidStep, NoStep,
    NothingToUndo,
    UnknownName,
)
from rimorders.lots import Lot
from rimorders.telling import judge, orders_in
from test_desks import shown_by
from wrong import GREAT, NO_INTEGERS, Wrong

FIRST = "lot a [1/3,2/5)", "lot b [1/4] (1/3,1/2)", "lot none none", "claim turn a 0 1 2"

# One command of each form, with its answer behind the first ones.
FORMS = {
    "lot c [0/1,1/1)": "ok", "lot c [1/4] (1/3,1/2)": "ok", "lot c none": "ok", "drop b": "ok", "lift 0": "ok", "undo": "ok",
    "claim inside none a": "ok", "claim order b 3": "ok", "claim turn b 0 1 2": "ok", "claim on none 0 3": "ok",
    "claim next a 3 0 1": "ok", "turn a 0 1 2": "sure", "on a 0 3": "open", "next a 3 0 2": "never", "simplest b": "1/4",
    "orders a 9": "4", "parting 3/8 2/5": "6", "show b": "[1/4] (1/3,1/2)", "names": "a b none", "claims": "1",
}


def console_of(*commands):
    console = Console()
    for command in commands:
        console.run(command)
    return console


class Examples(Wrong):

    def test_example(self):
        console = Console()
        self.assertEqual(
            [console.run("lot a [1/3,2/5)"), console.run("turn a 0 1 2"), console.run("simplest a"), console.run("orders a 9"),
             console.run("parting 3/8 2/5"), console.run("claim turn a 0 1 2")],
            ['ok', 'sure', '1/3', '4', '6', 'ok'],
        )
        raised = self.raised(Broken, console.run, "lot a (1/3,2/3)")
        self.assertEqual((raised.index, raised.shown), (0, '[1/2,2/3)'))

    def test_by_name(self):
        console = Console()
        self.assertEqual(console.run(command="lot a [1/3,2/5)"), "ok")
        self.assertEqual(console.run(command="show a"), "[1/3,2/5)")
        self.check(InvalidCommand, "show", console.run, command="show")

    def test_at_first(self):
        console = Console()
        self.assertIs(type(console.desk), Desk)
        self.assertEqual(shown_by(console.desk), ((), [], (), 0))
        self.assertEqual([console.run("names"), console.run("claims")], ["", "0"])


class Commands(Wrong):

    def test_each_form(self):
        for command, answer in FORMS.items():
            with self.subTest(command=command):
                told = console_of(*FIRST).run(command)
                self.assertEqual((type(told), told), (str, answer))

    def test_what_deeds_do(self):
        for command, names, claims, changes in (
            ("lot c [0/1,1/1)", ("a", "b", "c", "none"), 1, 5), ("lot b [0/1]", ("a", "b", "none"), 1, 5),
            ("drop b", ("a", "none"), 1, 5),
            ("lift 0", ("a", "b", "none"), 0, 5), ("undo", ("a", "b", "none"), 0, 3),
            ("claim order b 3", ("a", "b", "none"), 2, 5),
        ):
            desk = console_of(*FIRST, command).desk
            self.assertEqual([desk.names, len(desk.claims), desk.changes], [names, claims, changes])

    def test_claims(self):
        for command, claim in (
            ("claim inside none a", ("inside", "none", "a")), ("claim order b 3", ("order", "b", 3)),
            ("claim turn b 0 1 2", ("sure", "b", ("turn", 0, 1, 2))),
            ("claim turn none 40 39 38", ("sure", "none", ("turn", 40, 39, 38))),
            ("claim on none 0 3", ("sure", "none", ("on", 0, 3))), ("claim next a 3 0 1", ("sure", "a", ("next", 3, 0, 1))),
        ):
            desk = console_of(*FIRST, command).desk
            self.assertEqual(desk.claims, (("sure", "a", ("turn", 0, 1, 2)), claim))

    def test_questions_change_nothing(self):
        console = console_of(*FIRST)
        before = shown_by(console.desk)
        for command, answer in FORMS.items():
            if answer != "ok":
                console.run(command)
        self.assertEqual(shown_by(console.desk), before)

    def test_texts(self):
        console = Console()
        for text in ("none", "[0/1]", "[0/1,1/1)", "[1/4] (1/3,1/2)", "[0/1] [1/3] [2/3]", "(0/1,1/3) (1/3,2/5] [3/7] (1/2,1/1)",
                     f"({GREAT - 2}/{GREAT - 1},{GREAT - 1}/{GREAT}]"):
            self.assertEqual(console.run(f"lot a {text}"), "ok")
            self.assertEqual(console.run("show a"), text)
            self.assertEqual(console.desk.thing("a"), Lot.read(text))

    def test_long_texts(self):
        console = Console()
        text = " ".join([f"[{top}/997]" for top in range(1, 800)])
        self.assertEqual(console.run(f"lot a {text}"), "ok")
        self.assertEqual(console.run("show a"), text)
        low = (10 ** 4000 - 1, 10 ** 4000)
        console.desk.put("b", Lot(((low, low, True, True),)))
        self.assertEqual(console.run("show b"), f"[{console.run('simplest b')}]")
        self.assertEqual(console.run("simplest b"), "9" * 4000 + "/1" + "0" * 4000)

    def test_names_that_are_words(self):
        console = Console()
        for name in ("lot", "drop", "lift", "undo", "claim", "claims", "names", "none", "inside", "turn", "parting", "ok",
                     "abcdefgh"):
            self.assertEqual(console.run(f"lot {name} [1/3]"), "ok")
        self.assertEqual([console.run("show claim"), console.run("turn turn 0 1 2"), console.run("claim order claim 3")],
                         ["[1/3]", "sure", "ok"])
        self.assertEqual(console.run("names"), " ".join(console.desk.names))

    def test_judged(self):
        source = random.Random(95)
        console = console_of(*FIRST)
        for _ in range(150):
            name = source.choice("ab")
            word = source.choice(("turn", "on", "next"))
            count = source.randrange(2, 42)
            marks = source.sample(range(41 if word != "next" else count), {"turn": 3}.get(word, 2))
            numbers = [count, *marks] if word == "next" else marks
            told = console.run(" ".join([word, name, *map(str, numbers)]))
            self.assertEqual(told, judge(console.desk.thing(name), (word, *numbers)))

    def test_orders(self):
        console = console_of(*FIRST)
        for name in ("a", "b", "none"):
            for count in range(1, 42):
                self.assertEqual(console.run(f"orders {name} {count}"), str(orders_in(console.desk.thing(name), count)))

    def test_parting(self):
        console = Console()
        for one, other, answer in (
            ("3/8", "2/5", "6"), ("2/5", "3/8", "6"), ("3/8", "3/7", "6"), ("3/8", "3/8", "never"), ("0/1", "0/1", "never"),
            ("0/1", "1/2", "2"),
            (f"{10 ** 29}/{10 ** 30 - 1}", "1/10", "11"), (f"1/{GREAT}", "0/1", "2"),
            (f"1/{GREAT}", f"1/{GREAT - 1}", str(GREAT)),
            (f"{GREAT - 1}/{GREAT}", f"{GREAT - 1}/{GREAT}", "never"),
        ):
            self.assertEqual(console.run(f"parting {one} {other}"), answer)

    def test_its_desk(self):
        console = Console()
        desk = console.desk
        desk.put("a", Lot.read("[1/3,2/5)"))
        self.assertEqual([console.run("show a"), console.run("names")], ["[1/3,2/5)", "a"])
        console.run("claim turn a 0 1 2")
        self.assertIs(console.desk, desk)
        self.assertEqual(desk.claims, (("sure", "a", ("turn", 0, 1, 2)),))
        with self.assertRaises(Broken):
            with desk.trial():
                console.run("lot b none")
                console.run("lot a [1/2]")
        self.assertEqual(console.run("names"), "a")

    def test_rows_beside_a_model(self):
        source = random.Random(96)
        done = 0
        for _ in range(10):
            console, model = Console(), Model()
            for _ in range(50):
                deed, *given = drawn_deed(source, model)
                command = command_of(deed, *given)
                if command is None:
                    continue
                needed = model.expected(deed, *given)
                if needed is None:
                    self.assertEqual(console.run(command), "ok")
                    done += 1
                else:
                    raised = self.raised(needed[0], console.run, command)
                    self.assertEqual(vars(raised), needed[1])
                self.assertEqual(console.run("names"), " ".join(sorted(model.lots)))
                self.assertEqual(console.run("claims"), str(len(model.claims)))
                for name in model.lots:
                    self.assertEqual(console.run(f"show {name}"), model.lots[name].text)
        self.assertGreater(done, 100)


def command_of(deed, *given):
    """The command for a deed, None if there is none."""
    if deed == "put":
        return f"lot {given[0]} {given[1].text}" if given[0].islower() else None
    if deed == "claim":
        word, name, told = given[0]
        if word == "wrong" or word == "sure" and told[0] == "within":
            return None
        return f"claim {told[0]} {name} {' '.join(map(str, told[1:]))}" if word == "sure" else f"claim {word} {name} {told}"
    if deed == "lift" and given[0] < 0:
        return None
    return " ".join([deed, *map(str, given)])


def with_word(command, at, word):
    words = command.split(" ")
    return " ".join(words[:at] + [word] + words[at + 1:])


class NoCommands(Wrong):

    def setUp(self):
        self.console = console_of(*FIRST)
        self.before = shown_by(self.console.desk)

    def check_command(self, command):
        self.check(InvalidCommand, command, self.console.run, command)
        self.assertEqual(shown_by(self.console.desk), self.before)

    def test_no_strings(self):
        for at, wrong in enumerate([thing for thing in NO_INTEGERS if not isinstance(thing, str)] + [
            0, 3, b"undo", ["undo"], ("names",), ["lot", "a", "none"], Console(), Desk(), Lot(()),
        ]):
            with self.subTest(at=at):
                self.check_command(wrong)
                self.check(InvalidCommand, wrong, self.console.run, command=wrong)

    def test_spaces(self):
        for command in FORMS:
            with self.subTest(command=command):
                for wrong in (" " + command, command + " ", command + "\n", "\n" + command,
                              command.replace(" ", "\n")[:-1] + "\n", "  " + command):
                    self.check_command(wrong)
                words = command.split(" ")
                for at in range(1, len(words)):
                    for between in ("  ", "\n", "", "   ", " \n"):
                        self.check_command(" ".join(words[:at]) + between + " ".join(words[at:]))

    def test_words_too_many_and_too_few(self):
        for command in FORMS:
            with self.subTest(command=command):
                for more in ("a", "0", "none", "3/8", command):
                    self.check_command(f"{command} {more}")
                words = command.split(" ")
                for at in range(len(words)):
                    shorter = " ".join(words[:at] + words[at + 1:])
                    # A text may have more or fewer words, and some commands are among the words of others.
                    if words[0] != "lot" and shorter not in FORMS and shorter.split(" ")[0] not in ("turn", "on", "next"):
                        self.check_command(shorter)
        for command in ("", " ", "lot", "lot a", "lot a ", "claim", "claim ", "claim turn", "claim claim turn a 0 1 2",
                        "turn 0 1 2", "claim inside a", "claim a b", "claim sure a", "claim names", "claim undo",
                        "inside a b", "order a 3", "next a 0 1", "on a 0 1 2", "turn a 0 1", "next a 3 0 1 2",
                        "claim next a 0 1", "claim on a 0 1 2", "claim order a"):
            self.check_command(command)

    def test_words_otherwise(self):
        for command in FORMS:
            words = command.split(" ")
            for at in range(2 if words[0] == "claim" else 1):
                word = words[at]
                for wrong in (word.upper(), word.title(), word[:-1], word + "x", "x" + word, word[::-1], "", "0", "?",
                              word + word, word.replace("o", "0") + "."):
                    with self.subTest(command=command, wrong=wrong):
                        self.check_command(with_word(command, at, wrong))
        for command in ("put a none", "thing a", "judge a", "help", "claim within a 0 1 0/1 1/2", "within a 0 1 0/1 1/2",
                        "note turn 0 1 2"):
            self.check_command(command)

    def test_names_otherwise(self):
        places = {"lot c none": 1, "drop b": 1, "claim inside none a": 3, "claim order b 3": 2, "claim turn b 0 1 2": 2,
                  "claim on none 0 3": 2, "claim next a 3 0 1": 2, "turn a 0 1 2": 1, "on a 0 3": 1, "next a 3 0 2": 1,
                  "simplest b": 1, "orders a 9": 1, "show b": 1}
        for command, at in places.items():
            for wrong in ("", "A", "aB", "abcdefghi", "a" * 80, "a1", "1", "a_", "a-b", "a.", "'a'", "[a]", "a/b", "~", "a\n",
                          "\na"):
                with self.subTest(command=command, wrong=wrong):
                    self.check_command(with_word(command, at, wrong))
        for wrong in ("A", "abcdefghi", "1", ""):
            self.check_command(with_word("claim inside none a", 2, wrong))

    def test_numbers_otherwise(self):
        places = {"lift 0": (1,), "claim order b 3": (3,), "claim turn b 0 1 2": (3, 4, 5), "claim on none 0 3": (3, 4),
                  "claim next a 3 0 1": (3, 4, 5), "turn a 0 1 2": (2, 3, 4), "on a 0 3": (2, 3), "next a 3 0 2": (2, 3, 4),
                  "orders a 9": (2,)}
        for command, at_words in places.items():
            for at in at_words:
                for wrong in ("", "00", "01", "007", "+1", "-1", "-0", "+0", "100", "101", "999", "1000", str(GREAT),
                              "9" * 5000, "1.0", "1.", ".1", "1_0", "1e1", "0x1", "one", "a", "1/1", "3/8", "1,", "(1)",
                              "1\n", "\n1", "True", "None"):
                    with self.subTest(command=command, wrong=wrong[:9]):
                        self.check_command(with_word(command, at, wrong))

    def test_steps_otherwise(self):
        for at in (1, 2):
            for wrong in ("", "3", "3/", "/8", "/", "3/8/", "/3/8", "3//8", "3/8/1", "03/8", "3/08", "00/1", "0/01", "3/0",
                          "0/0", "1/00", "+3/8", "3/+8", "-3/8", "3/-8", "3.0/8", "3/8.", "3:8", "3|8", "(3,8)", "[3/8]",
                          "a/b", "a", "3/a", "1_0/21", f"1/{GREAT + 1}", f"{GREAT + 1}/{GREAT}", f"1/{10 * GREAT}",
                          "1/" + "9" * 5000, "9" * 5000 + "/8", "3/8\n", "3 / 8"):
                with self.subTest(wrong=wrong[:9]):
                    self.check_command(with_word("parting 3/8 2/5", at, wrong))

    def test_texts_otherwise(self):
        for wrong in ("", "[2/4]", "[1/3,2/5", "1/3,2/5)", "[1/3;2/5)", "[1/3,2/5) ", " [1/3,2/5)", "[1/3, 2/5)",
                      "[1/3,2/5)(1/2,2/3)", "[1/3,2/5)  (1/2,2/3)", "(1/2,2/3) [1/3,2/5)", "[1/3,2/5) [2/5,1/2)", "[0/1,1/1]",
                      "[1/1]", "None", "none none", "none [1/3]", "[1/3] none", "(1/3)", "[1/3,1/3]", "[01/3]", "[1/0]", "[1/3]\n",
                      "[1/3]\n[1/2]", "{1/3}", "a", "3/8", "0", "<1/3,1/2>"):
            with self.subTest(wrong=wrong):
                self.check_command(f"lot c {wrong}")


class Errors(Wrong):

    def setUp(self):
        self.console = console_of(*FIRST)
        self.before = shown_by(self.console.desk)

    def tearDown(self):
        self.assertEqual(shown_by(self.console.desk), self.before)

    def check_given(self, error, given, command):
        raised = self.raised(error, self.console.run, command)
        self.assertEqual((type(raised.given), raised.given), (type(given), given), command)

    def test_unknown_names(self):
        for command in ("drop c", "claim inside c a", "claim inside a c", "claim inside c d", "claim order c 3",
                        "claim turn c 0 1 2", "claim on c 0 3", "claim next c 3 0 1", "turn c 0 1 2", "on c 0 3",
                        "next c 3 0 1", "simplest c", "orders c 9", "show c", "claim inside none c", "show abcdefgh"):
            self.check_given(UnknownName, "abcdefgh" if "abcdefgh" in command else "c", command)
        # The name comes ahead of the number and the sighting, as the lot does.
        for command in ("turn c 0 0 1", "on c 1 1", "next c 3 0 3", "orders c 0", "orders c 99"):
            self.check_given(UnknownName, "c", command)

    def test_of_deeds(self):
        for command, index, shown in (("lot a (1/3,2/3)", 0, "[1/2,2/3)"), ("claim order b 4", 1, 2),
                                      ("claim inside b a", 1, "[1/4] [2/5,1/2)"), ("claim turn b 0 3 1", 1, "[1/4]"),
                                      ("claim on a 0 3", 1, "(1/3,2/5)"), ("claim next a 4 0 3", 1, "[1/3]")):
            raised = self.raised(Broken, self.console.run, command)
            self.assertEqual((raised.index, raised.shown), (index, shown))
        self.check_index(InUse, 0, self.console.run, "drop a")
        for at in (1, 2, 10, 99):
            self.check_given(InvalidIndex, at, f"lift {at}")
        console = Console()
        self.raised(NothingToUndo, console.run, "undo")
        self.check(InvalidIndex, 0, console.run, "lift 0")

    def test_invalid_claims(self):
        for command, claim in (
            ("claim order a 0", ("order", "a", 0)), ("claim order a 42", ("order", "a", 42)),
            ("claim order a 99", ("order", "a", 99)),
            ("claim order c 0", ("order", "c", 0)), ("claim turn a 0 0 1", ("sure", "a", ("turn", 0, 0, 1))),
            ("claim turn c 0 1 41", ("sure", "c", ("turn", 0, 1, 41))), ("claim on a 99 0", ("sure", "a", ("on", 99, 0))),
            ("claim next a 42 0 1", ("sure", "a", ("next", 42, 0, 1))), ("claim next a 3 0 3", ("sure", "a", ("next", 3, 0, 3))),
        ):
            self.check_given(InvalidClaim, claim, command)

    def test_of_questions(self):
        for command, sighting in (
            ("turn a 0 0 1", ("turn", 0, 0, 1)), ("turn a 0 1 41", ("turn", 0, 1, 41)),
            ("turn none 99 98 97", ("turn", 99, 98, 97)),
            ("on a 3 3", ("on", 3, 3)), ("on a 41 0", ("on", 41, 0)), ("next a 1 0 1", ("next", 1, 0, 1)),
            ("next a 0 0 1", ("next", 0, 0, 1)),
            ("next a 42 0 1", ("next", 42, 0, 1)), ("next none 3 0 3", ("next", 3, 0, 3)),
        ):
            self.check_given(InvalidSighting, sighting, command)
        for command, count in (("orders a 0", 0), ("orders a 42", 42), ("orders none 99", 99)):
            self.check_given(InvalidNumber, count, command)
        for command in ("turn none 0 1 2", "on none 0 1", "next none 2 0 1", "simplest none"):
            self.raised(NoStep, self.console.run, command)

    def test_of_parting(self):
        for command, step in (
            ("parting 2/4 1/3", (2, 4)), ("parting 1/3 2/4", (2, 4)), ("parting 1/1 2/4", (1, 1)), ("parting 0/2 1/3", (0, 2)),
            ("parting 1/3 9/8", (9, 8)), (f"parting {GREAT}/1 1/2", (GREAT, 1)),
            (f"parting 1/2 {GREAT}/{GREAT}", (GREAT, GREAT)),
            ("parting 3/8 0/99", (0, 99)),
        ):
            self.check_given(InvalidStep, step, command)


class Objects(unittest.TestCase):

    def test_equal_to_itself_alone(self):
        console = Console()
        self.assertTrue(console and console == console and not console != console)
        for thing in (Console(), console.desk, None, "", 0, Console, [console]):
            self.assertIs(console == thing, False)
            self.assertIs(console != thing, True)

    def test_consoles_beside_one_another(self):
        one, other = console_of("lot a none"), console_of("lot b [1/3]", "lot c none")
        one.run("lot z [1/2]")
        other.run("drop c")
        self.assertEqual([one.run("names"), other.run("names")], ["a z", "b"])
        self.assertFalse(one.desk == other.desk)


if __name__ == "__main__":
    unittest.main()
