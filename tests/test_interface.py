"""The interface as the document lists it: names, arguments, and where each is defined."""

import inspect
import unittest

from signposts import answers, posts, turning


def words(function):
    return list(inspect.signature(function).parameters)


class Interface(unittest.TestCase):
    def test_functions(self):
        listed = {
            "followed": ["land", "signs", "place"],
            "fewest": ["land", "signs"],
            "home_from": ["land", "signs"],
            "worth": ["land", "signs", "place"],
            "astray": ["land", "signs", "place", "sign"],
        }
        for name, arguments in listed.items():
            with self.subTest(name):
                function = getattr(turning, name)
                self.assertEqual(function.__module__, "signposts.turning")
                self.assertEqual(words(function), arguments)

    def test_answers(self):
        listed = {
            "Home": (["steps"], ["land", "signs", "place"]),
            "Round": (["places"], ["land", "signs", "place"]),
            "Stands": (["place"], ["land", "signs", "place"]),
            "Turned": (["signs", "sets"], ["land", "signs"]),
            "Shut": (["places"], ["land", "signs"]),
        }
        self.assertEqual(answers.Answer.__module__, "signposts.answers")
        for name, (fields, asked) in listed.items():
            with self.subTest(name):
                kind = getattr(answers, name)
                self.assertEqual(kind.__module__, "signposts.answers")
                self.assertEqual(kind.__bases__, (answers.Answer,))
                self.assertEqual(words(kind), fields)
                self.assertEqual(words(kind.__dict__["shows"]), ["self"] + asked)
                given = [[7, [8]] for _ in fields]
                made = kind(*given)
                self.assertEqual(vars(made), {field: [7, [8]] for field in fields})
                for row in given:
                    row[1].append(9)
                    row.append(10)
                self.assertEqual(vars(made), {field: [7, [8]] for field in fields})

    def test_posts(self):
        listed = {"turn": ["place", "sign"], "lose": ["place"], "all_signs": [], "turned": []}
        self.assertEqual(posts.Posts.__module__, "signposts.posts")
        self.assertEqual(words(posts.Posts), ["land"])
        for name, arguments in listed.items():
            with self.subTest(name):
                self.assertEqual(words(posts.Posts.__dict__[name]), ["self"] + arguments)


if __name__ == "__main__":
    unittest.main()
