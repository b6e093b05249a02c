import unittest

from twobanks.errors import BankError, Lonely, NoPoint, NoRope


class ErrorsTest(unittest.TestCase):
    def test_any_refusal_is_a_bank_error(self):
        self.assertEqual(BankError.__bases__, (ValueError,))
        for error in (NoPoint, NoRope, Lonely):
            self.assertEqual(error.__bases__, (BankError,))

    def test_one_refusal_is_not_another(self):
        for error in (NoPoint, NoRope, Lonely):
            others = tuple(other for other in (NoPoint, NoRope, Lonely) if other != error)
            with self.assertRaises(error) as caught:
                raise error("why")
            self.assertNotIsInstance(caught.exception, others)
            self.assertIsInstance(caught.exception, BankError)


if __name__ == "__main__":
    unittest.main()
