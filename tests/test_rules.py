"""The mechanical check of the package's files: what it has to find, and what it has to let."""

import pathlib
import subprocess
import sys
import tempfile
import textwrap
import unittest

RULES = pathlib.Path(__file__).parent.parent / ".ci" / "rules.py"
PACKAGE = pathlib.Path(__file__).parent.parent / "toldwithin"


def checked(folder):
    command = [sys.executable, "-B", str(RULES), str(folder)]
    return subprocess.run(command, capture_output=True, text=True, check=False)


class RulesCase(unittest.TestCase):
    def told_of(self, *texts):
        """What the check tells of a package of files with these texts, and whether it lets it pass."""
        with tempfile.TemporaryDirectory() as place:
            folder = pathlib.Path(place) / "package"
            folder.mkdir()
            for number, text in enumerate(texts):
                (folder / f"file{number}.py").write_text(textwrap.dedent(text), encoding="utf-8")
            found = checked(folder)
        self.assertEqual(found.stderr, "")
        return found.stdout, found.returncode == 0

    def assertWrong(self, word, *texts):
        told, passes = self.told_of(*texts)
        self.assertIn(word, told)
        self.assertFalse(passes)

    def assertLet(self, *texts):
        self.assertEqual(self.told_of(*texts), ("", True))


class OperatorsTest(RulesCase):
    def test_the_package_itself(self):
        found = checked(PACKAGE)
        self.assertEqual((found.stdout, found.stderr, found.returncode), ("", "", 0))

    def test_an_operator_that_calls_a_method_named_like_a_change(self):
        for name in ("add", "append", "clear", "extend", "insert", "pop", "remove", "reverse", "setdefault", "update"):
            self.assertWrong(f"__add__ calls {name}", f"""
                class Box:
                    def __init__(self, rows):
                        self.rows = rows

                    def __add__(self, other):
                        return self.{name}(other)

                    def {name}(self, other):
                        return Box([*self.rows, other])
            """)

    def test_other_operators(self):
        for head in ("__eq__(self, other)", "__len__(self)", "__contains__(self, other)", "__neg__(self)",
                     "__getitem__(self, other)", "__radd__(self, other)", "__lt__(self, other)"):
            self.assertWrong("calls pop", f"""
                class Box:
                    def __init__(self, rows):
                        self.rows = rows

                    def {head}:
                        return self.rows.pop()
            """)

    def test_a_property(self):
        self.assertWrong("book calls add", """
            class Box:
                def __init__(self, rows):
                    self.rows = rows

                @property
                def book(self):
                    return self.add(1)

                def add(self, other):
                    return other
        """)

    def test_through_functions_methods_and_classes_of_other_files(self):
        first = """
            from package.file1 import longer


            class Box:
                def __init__(self, rows):
                    self.rows = rows

                def __add__(self, other):
                    return Box(longer(self.rows, other))
        """
        self.assertWrong("longer calls append", first, """
            def longer(rows, other):
                rows.append(other)
                return rows
        """)
        self.assertWrong("more calls extend", first, """
            class Rows:
                def __init__(self, rows):
                    self.rows = rows

                def more(self, other):
                    self.rows.extend(other)
                    return self.rows


            def longer(rows, other):
                return Rows(rows).more(other)
        """)
        self.assertWrong("__init__ calls append", first, """
            class Rows:
                def __init__(self, rows, other):
                    self.rows = rows
                    rows.append(other)


            def longer(rows, other):
                return Rows(rows, other).rows
        """)
        self.assertLet(first, """
            def longer(rows, other):
                found = [*rows]
                found.append(other)
                return found


            def shorter(rows):
                rows.pop()
        """)

    def test_what_is_passed_is_not_the_operators_own(self):
        for body in ("other.append(1)", "other[0] = 1", "self.rows = other", "self.rows[0] = 1", "del other[0]",
                     "other(1)", "self.rows(1)", "other = []; other.append(1)", "self.rows += other"):
            self.assertWrong("L5: __add__", f"""
                class Box:
                    def __init__(self, rows):
                        self.rows = rows

                    def __add__(self, other):
                        {body}
                        return self
            """)

    def test_what_an_operator_created(self):
        for body in ("found = []; found.append(other)", "found = {}; found[1] = other", "found = list(other); found.pop()",
                     "found = [0] * 3; found[0] = other", "found = other[1:]; found.insert(0, other)",
                     "found = [row for row in other]; found.clear()", "found = {}; found.setdefault(1, other)"):
            self.assertLet(f"""
                class Box:
                    def __init__(self, rows):
                        self.rows = rows

                    def __add__(self, other):
                        {body}
                        return found
            """)

    def test_changes_that_no_operator_runs(self):
        self.assertLet("""
            class Box:
                def __init__(self, rows):
                    self.rows = rows

                def __add__(self, other):
                    return Box([*self.rows, other])

                def add(self, other):
                    self.rows.append(other)
        """)


class NamesTest(RulesCase):
    def test_a_method_and_an_attribute(self):
        self.assertWrong("L18: many", """
            class Box:
                def __init__(self, rows):
                    self.many = rows


            class Shelf:
                def many(self):
                    return 1
        """)

    def test_methods_of_builtin_values(self):
        self.assertWrong("L25: calls format_map", """
            def told(text, table):
                return text.format_map(table)
        """)


if __name__ == "__main__":
    unittest.main()
