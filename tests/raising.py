"""What test cases have in common: errors with just these fields."""
import unittest


class Raising(unittest.TestCase):
    def raises(self, error, fields, call, *arguments, **more):
        """Fails unless the call raises just this error, with just these fields; returns the error."""
        with self.assertRaises(error) as caught:
            call(*arguments, **more)
        self.assertIs(type(caught.exception), error)
        self.assertEqual(vars(caught.exception), fields)
        return caught.exception
