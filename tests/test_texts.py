"""Texts of scripts: Script.text and Script.read."""

import unittest

from restartable.errors import TextError
from restartable.objects import Script
from tests import cases
from tests.cases import SESSION

SESSION_TEXT = "fields 3\ncopy 1 to 0\nwrite 0 to 1\nexchange 1 and 2\n"
SIGNS = "\n\t\r 0123456789-+.,_aconwr:"


def made(script):
    return Script(script[0], *script[1])


def reckoned_text(script):
    lines = ["fields {}".format(script[0])]
    for word, one, other in script[1]:
        lines.append(" ".join([word, str(one), "and" if word == "exchange" else "to", str(other)]))
    return "".join([line + "\n" for line in lines])


def small_changes(text):
    """The text with one sign left out, put in, or otherwise."""
    for place in range(len(text) + 1):
        before, behind = text[:place], text[place:]
        for sign in SIGNS:
            yield before + sign + behind
            yield before + sign + behind[1:]
        yield before + behind[1:]
        yield before
        yield behind


def changes_of_lines(text):
    """The text with lines or words left out, twice, exchanged or otherwise."""
    lines = text.split("\n")
    others = ["", " ", "fields 1", "fields 3", "fields 5", "fields 0", "fields 6", "field 3", "Fields 3", "fields  3",
              "fields 03", "fields three", "copy 1 to 0", "write 9 to 0", "write 10 to 0", "copy 0 to 0",
              "exchange 0 and 1", "exchange 1 to 0", "copy 0 and 1", "write 0 and 1", "write 0 to 9", "copy 0 to 1 ",
              " copy 0 to 1", "copy 0  to 1", "copy 0 to", "copy to 1", "copy", "copy 0 to 1 to 2", "COPY 0 to 1",
              "copy 00 to 1", "copy 0 to 01", "copy -1 to 0", "copy +1 to 0", "('copy', 1, 0)", "# copy 0 to 1"]
    for place in range(len(lines)):
        before, line, behind = lines[:place], lines[place], lines[place + 1:]
        yield "\n".join(before + behind)
        yield "\n".join(before + [line, line] + behind)
        yield "\n".join(before + behind + [line])
        for other in others:
            yield "\n".join(before + [other] + behind)
            yield "\n".join(before + [other, line] + behind)
        words = line.split(" ")
        for at in range(len(words)):
            yield "\n".join(before + [" ".join(words[:at] + words[at + 1:])] + behind)
            yield "\n".join(before + [" ".join(words[:at] + [words[at], words[at]] + words[at + 1:])] + behind)
            for other in ("copy", "write", "exchange", "to", "and", "fields", "0", "1", "9", "10", "00", "", "one"):
                yield "\n".join(before + [" ".join(words[:at] + [other] + words[at + 1:])] + behind)
    for other in ("\r\n", "\n\n", " \n", "\n ", "", " ", ";"):
        yield text.replace("\n", other)
    yield text.upper()
    yield text * 2


class TextTest(unittest.TestCase):
    def test_the_session(self):
        self.assertEqual(made(SESSION).text(), SESSION_TEXT)

    def test_one_field_and_no_steps(self):
        for fields in range(1, 6):
            self.assertEqual(Script(fields).text(), f"fields {fields}\n")
            self.assertEqual(Script.read(f"fields {fields}\n"), Script(fields))

    def test_there_and_back(self):
        for plain in cases.drawn_scripts(111):
            text = made(plain).text()
            self.assertEqual(text, reckoned_text(plain))
            found = Script.read(text)
            self.assertIs(type(found), Script)
            self.assertEqual(repr(found.plain), repr(plain))
            self.assertEqual(found.text(), text)

    def test_all_steps(self):
        for fields in range(1, 6):
            lines = [f"write {value} to {field}" for value in range(10) for field in range(fields)]
            lines += [f"{word} {one} {middle} {other}" for word, middle in (("copy", "to"), ("exchange", "and"))
                      for one in range(fields) for other in range(fields) if one != other]
            for line in lines:
                word, one, _, other = line.split()
                expected = Script(fields, (word, int(one), int(other)))
                self.assertEqual(Script.read(f"fields {fields}\n{line}\n"), expected)

    def test_off_an_object(self):
        self.assertEqual(Script(1).read(SESSION_TEXT), made(SESSION))


class ReadTest(unittest.TestCase):
    def check(self, text, reads):
        """A text is refused, or it is just that of the script that it gives."""
        try:
            found = Script.read(text)
        except TextError as error:
            self.assertIs(type(error), TextError)
            return
        self.assertEqual(found.text(), text)
        self.assertEqual(reckoned_text(found.plain), text)
        reads.add(text)

    def test_small_changes(self):
        reads = set()
        for text in (SESSION_TEXT, "fields 1\n", "fields 2\nexchange 0 and 1\n",
                     "fields 5\nwrite 9 to 4\ncopy 4 to 0\n", made(cases.drawn_scripts(112)[-1]).text()):
            for changed in small_changes(text):
                self.check(changed, reads)
        self.assertTrue({"fields 4\n" + SESSION_TEXT[9:], SESSION_TEXT[:-17], "fields 2\n"} <= reads)
        self.assertTrue({"fields 0\n", "fields 6\n", SESSION_TEXT + "\n", SESSION_TEXT[:-1]}.isdisjoint(reads))

    def test_changes_of_lines(self):
        reads = set()
        for text in (SESSION_TEXT, "fields 1\n", "fields 3\n" + "copy 1 to 0\n" * 12):
            for changed in changes_of_lines(text):
                self.check(changed, reads)
        self.assertIn("fields 3\ncopy 1 to 0\nexchange 1 and 2\n", reads)

    def test_refused(self):
        for text in ("", "\n", "fields", "fields \n", "fields 3", "fields 3\n\n", "\nfields 3\n", " fields 3\n",
                     "fields 3 \n", "fields 03\n", "fields 0\n", "fields 6\n", "fields 10\n", "fields -1\n",
                     "fields 3\n ", "fields 3\r\n", "fields\n3\n", "field 1\n", "fields one\n", "Fields 3\n",
                     "copy 1 to 0\nfields 3\n", "copy 1 to 0\n", "fields 3\nfields 3\n", "fields 3\ncopy 1 to 0",
                     "fields 3\ncopy 1 to 0\n\n", "fields 3\n\ncopy 1 to 0\n", "fields 3\ncopy 1 to 1\n",
                     "fields 3\ncopy 1 to 3\n", "fields 3\ncopy 3 to 1\n", "fields 3\ncopy 1 and 0\n",
                     "fields 3\nexchange 1 to 0\n", "fields 3\nwrite 10 to 0\n", "fields 3\nwrite 0 to 3\n",
                     "fields 3\nwrite 00 to 0\n", "fields 3\ncopy 01 to 0\n", "fields 3\ncopy 1 to 0 \n",
                     "fields 3\n copy 1 to 0\n", "fields 3\ncopy  1 to 0\n", "fields 3\ncopy 1 to 0\r\n",
                     "fields 3\ncopy 1 to 0 copy 1 to 0\n", "fields 1\ncopy 0 to 1\n", "fields 1\nexchange 0 and 0\n",
                     "fields 2\ncopy True to False\n", "fields 3\nmove 1 to 0\n", "fields 3\nNone\n", "None\n",
                     "Script(3 fields, 0 steps)", "Script(3 fields, 0 steps)\n", "fields 3\ncopy \u0661 to 0\n"):
            self.assertIs(cases.told(Script.read, (text,)), TextError, text)

    def test_other_numbers_of_fields(self):
        for plain in cases.drawn_scripts(113):
            body = made(plain).text().partition("\n")[2]
            for fields in range(8):
                found = cases.told(Script.read, (f"fields {fields}\n{body}",))
                expected = cases.told(Script, (fields, *plain[1]))
                self.assertEqual(found, expected if isinstance(expected, str) else TextError)

    def test_twelve_lines_and_more(self):
        for many in range(80):
            text = "fields 1\n" + "write 0 to 0\n" * many
            expected = f"Script(1 fields, {many} steps)" if many < 13 else TextError
            self.assertEqual(cases.told(Script.read, (text,)), expected)

    def test_errors(self):
        for thing in [*cases.ODD, SESSION, 0, 1, 3, [SESSION_TEXT], (SESSION_TEXT,), {SESSION_TEXT: 1},
                      SESSION_TEXT.split("\n"), SESSION_TEXT.encode()]:
            self.assertIs(cases.told(Script.read, (thing,)), TextError, thing)

    def test_the_same_call_again(self):
        for thing in [SESSION_TEXT, SESSION_TEXT[1:], *cases.ODD]:
            self.assertTrue(cases.repeats(Script.read, (thing,)), thing)


if __name__ == "__main__":
    unittest.main()
