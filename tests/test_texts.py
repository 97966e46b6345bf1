"""Points 2, 3, 13, 14 and 15, as far as poisescale.texts goes."""

import inspect
import itertools
import unittest

from poisescale import texts
from poisescale.errors import NoForm, NoText
from poisescale.forms import form_of
from poisescale.texts import read, shown
import samples

ORDINARY = {
    ".": [], ">": [1], "<": [-1], ">.": [0, 1], "<.": [0, -1], "><": [-1, 1], "<>": [1, -1],
    ">.<": [-1, 0, 1], "<.>": [1, 0, -1], ">..": [0, 0, 1], ">><.": [0, -1, 1, 1],
}


def written(form):
    """The text of a form, by the document's words."""
    signs = {-1: "<", 0: ".", 1: ">"}
    text = "."
    if form:
        text = ""
        for lay in form:
            text = signs[lay] + text
    return text


class Interface(unittest.TestCase):
    def test_names_and_arguments(self):
        self.assertEqual(list(inspect.signature(texts.shown).parameters), ["form"])
        self.assertEqual(list(inspect.signature(texts.read).parameters), ["text"])

    def test_arguments_by_name(self):
        self.assertEqual(shown(form=[-1, 0, 1]), ">.<")
        self.assertEqual(read(text=">.<"), [-1, 0, 1])


class Shown(unittest.TestCase):
    def test_ordinary_forms(self):
        for text, form in ORDINARY.items():
            self.assertEqual(shown(form), text)

    def test_every_short_form(self):
        for form in samples.short_forms(6):
            told = shown(form)
            self.assertIs(type(told), str)
            self.assertEqual(told, written(form))

    def test_long_forms(self):
        for form in samples.long_forms():
            self.assertEqual(shown(form), written(form))
        self.assertEqual(shown([0] * 1999 + [-1]), "<" + "." * 1999)

    def test_what_is_handed_in_stays(self):
        for form in samples.short_forms(4):
            samples.assert_own(self, shown, form)

    def test_no_form_is_refused(self):
        for place, thing in enumerate(samples.no_forms()):
            with self.subTest(place=place):
                samples.assert_refused(self, NoForm, shown, thing)


class Read(unittest.TestCase):
    def test_ordinary_texts(self):
        for text, form in ORDINARY.items():
            self.assertEqual(read(text), form)

    def test_every_short_text_writes_a_form_or_is_refused(self):
        forms = {written(form): form for form in samples.short_forms(5)}
        for length in range(6):
            for signs in itertools.product("<.>x ", repeat=length):
                text = "".join(signs)
                if text in forms:
                    told = read(text)
                    samples.assert_plain_form(self, told)
                    self.assertEqual(told, forms.pop(text))
                else:
                    samples.assert_refused(self, NoText, read, text)
        self.assertEqual(forms, {})

    def test_texts_of_2000_signs(self):
        for text in ("<" * 2000, ">" * 2000, ">" + "." * 1999, "<" + "." * 1998 + ">", "<>" * 1000, "><." * 666 + "<<"):
            told = read(text)
            samples.assert_plain_form(self, told)
            self.assertEqual(len(told), 2000)
            self.assertEqual(written(told), text)

    def test_what_is_told_is_the_askers_own(self):
        for text in list(ORDINARY) + ["<" * 2000]:
            samples.assert_own(self, read, text)

    def test_the_empty_text_is_refused(self):
        samples.assert_refused(self, NoText, read, "")

    def test_no_text_and_no_written_form_is_refused(self):
        for place, thing in enumerate(samples.no_texts()):
            with self.subTest(place=place):
                samples.assert_refused(self, NoText, read, thing)


class ThereAndBack(unittest.TestCase):
    def test_from_form_to_text_and_back(self):
        for form in samples.short_forms(6) + samples.long_forms():
            self.assertEqual(read(shown(form)), form)

    def test_from_number_to_text_and_back(self):
        for number in list(range(-500, 501)) + samples.great_numbers():
            self.assertEqual(read(shown(form_of(number))), form_of(number))

    def test_from_text_to_form_and_back(self):
        for text in ORDINARY:
            self.assertEqual(shown(read(text)), text)

    def test_no_two_forms_are_written_alike(self):
        found = samples.short_forms(6)
        self.assertEqual(len({shown(form) for form in found}), len(found))


if __name__ == "__main__":
    unittest.main()
