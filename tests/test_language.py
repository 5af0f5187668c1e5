import ast
import unittest

from tests import language


class Language(unittest.TestCase):
    def test_the_package_keeps_to_its_language(self):
        self.assertEqual(language.faults(), [])

    def test_the_checks_find_faults(self):
        def nodes(text):
            return list(language.in_nodes("m", ast.parse(text), set()))

        def names(text):
            return list(language.in_names("m", ast.parse(text)))

        def operators(text):
            return list(language.in_operators({"m": ast.parse(text)}))

        for text in ("x = 1 / 2", "x = 1.5", "x = any(y for y in z)", "x = eval(y)", "x.encode()", "x = a is b",
                     "x = zip(a, b)", "x = '50%'", "x = 2 ** n", "x = 2 ** 65", "x += y", "x = list(reversed(y))",
                     "x = lcm(*y)", "x = sum(*y)"):
            self.assertTrue(nodes(text), text)
        self.assertEqual(nodes("x = 10 ** 60 + len(list(reversed(list(y)))) + max(*y)"), [])
        for text in ("min = 3", "def f(hash): pass", "def f(): self.__x = 1", "from m import a\na = 1", "_wall = 1",
                     "def f():\n" + "    pass\n" * 40):
            self.assertTrue(names(text), text)
        for line in ("self.n = 1", "x.append(1)", "x[0] = 1", "x()", "y = x\n  y.append(1)", "y = [z(x)]\n  y[0] = 1",
                     "y = [0] * x\n  y.append(1)", "y = x + [0]\n  y.append(1)", "y = x[1:]\n  y.append(1)"):
            text = f"class C:\n def __add__(self, x):\n  {line}\ndef z(x):\n x.pop()\n"
            self.assertTrue(operators(text), text)
        self.assertEqual(operators("class C:\n def __add__(self, x):\n  y = []\n  y.append(x)\n"), [])
        self.assertEqual(operators("class C:\n def __add__(self, x):\n  y = [0 for _ in x]\n  y.append(x)\n"), [])
        # A method of the built-in values is called behind an operator, and an attribute has its name.
        for line in ("return x.count(1)", "return w(x)"):
            text = f"class C:\n def __sub__(self, x):\n  {line}\ndef w(x):\n  return [1].count(x)\n"
            self.assertEqual(operators(text), [])
            self.assertTrue(operators(text + "class D:\n def __init__(self, count):\n  self.count = count\n"), line)

        def kinds(check, text):
            return list(check({"m": ast.parse(text)}))

        held = "class C:\n K = 1\n def __init__(self, n):\n  self.n = n\ndef f(x):\n y = x[0]\n "
        for line, fine in (("return y.K", True), ("return x[0].K", False), ("return x.n.K", False), ("y.n = 1", True),
                           ("x[0].n = 1", False), ("x.n.n += 1", False), ("return x[0].n", True), ("return x.m", False)):
            self.assertEqual(kinds(language.in_classes, held + line) == [], fine, line)
        prop = "class C:\n @property\n def n(self):\n  return 1\n"
        self.assertEqual(kinds(language.in_properties, prop), [])
        for more in ("class D:\n def n(self):\n  return 1\n", "class D:\n def m(self):\n  self.n = 1\n", "class D:\n n = 1\n"):
            self.assertTrue(kinds(language.in_properties, prop + more))
        for text in ("class C:\n def __getitem__(self, at):\n  return 1\n",
                     "class C:\n def __iter__(self):\n  yield 1\n", "class C:\n def __len__(self):\n  return 1\n"):
            self.assertTrue(kinds(language.in_sequences, text))
        item = "class C:\n def __getitem__(self, at):\n  return 1\n def __iter__(self):\n  "
        self.assertEqual(kinds(language.in_sequences, item + "raise TypeError('no list')"), [])
        self.assertTrue(kinds(language.in_sequences, item + "raise ValueError('no list')"))

        def loops(text):
            return list(language.in_loops("m", ast.parse("def f(xs, self, c):\n " + text.replace("\n", "\n "))))

        for text in ("for x in enumerate(xs):\n xs.append(x)", "ys = xs[1:2]\nfor x in ys:\n xs[0] = x",
                     "ys = xs\nfor x in ys:\n xs[0] = x", "ys = xs\nfor x in xs:\n ys.append(x)",
                     "for x in xs[1:]:\n xs.append(x)", "for x in xs if c else []:\n xs.append(x)",
                     "for x in self.rows:\n self.rows.append(x)", "for x in self.rows:\n self.rows[0] = x",
                     "ys = self.rows[c:]\nfor x in ys:\n self.rows[0] = x", "ys = c or xs\nfor x in ys:\n xs[0] = x",
                     "ys = xs[c]\nfor x in ys:\n xs[0] = x", "ys = xs[1:]\nfor x in zip(c, ys):\n if x:\n  del xs[0]"):
            self.assertTrue(loops(text), text)
        for text in ("ys = list(xs[1:2])\nfor x in ys:\n xs[0] = x", "for x in list(xs):\n xs.append(x)",
                     "ys = [x for x in xs]\nfor x in ys:\n xs.append(x)", "for x in xs[c]:\n c.append(x)"):
            self.assertEqual(loops(text), [], text)
        nested = "def f(xs):\n for x in xs:\n  pass\n return [[x for x in y] for y in xs]"
        self.assertTrue(list(language.in_comprehensions("m", ast.parse(nested))))
