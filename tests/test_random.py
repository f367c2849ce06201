"""Many stores made by chance (the same ones each time), compared with the slow model."""

import random
import unittest

from tests.drawn import change, drawn_model, grow, questions_of, some_model
from tests.helper import asked, run


class Random(unittest.TestCase):
    def check(self, told, chance, model):
        """told: pairs of a step and its answer, behind which the model is as the store is."""
        before = [step for step, answer in told]
        self.assertEqual(run(*before), [answer for step, answer in told], before)
        questions = questions_of(chance, model)
        given = asked(before, [step for step, answer in questions])
        self.assertEqual(len(given), len(questions))
        for (step, answer), found in zip(questions, given):
            self.assertEqual(found, answer, (step, told))

    def test_stores_grown_line_by_line(self):
        for seed in range(120):
            chance = random.Random(seed)
            model = some_model(chance)
            told = [(("store", model.text()), model.counted())]
            told += grow(chance, model, chance.randint(3, 8))
            self.check(told, chance, model)

    def test_stores_read_at_once(self):
        for seed in range(1000, 1080):
            chance = random.Random(seed)
            model = some_model(chance)
            grow(chance, model, chance.randint(3, 8))
            self.check([(("store", model.text()), model.counted())], chance, model)

    def test_settled_and_undone(self):
        for seed in range(2000, 2080):
            chance = random.Random(seed)
            model = some_model(chance)
            grow(chance, model, chance.randint(3, 7))
            told = [(("store", model.text()), model.counted())]
            for n in range(3):
                if model.entries != []:
                    told.append(change(chance, model))
            told += grow(chance, model, 2)
            self.check(told, chance, model)

    def test_much_is_sold(self):
        for seed in range(3000, 3060):
            chance = random.Random(seed)
            model = drawn_model(chance, chance.randint(2, 5), chance.randint(2, 6))
            self.check([(("store", model.text()), model.counted())], chance, model)

    def test_no_green_kilogram_is_lost_in_the_model(self):
        for seed in range(50):
            chance = random.Random(seed)
            model = some_model(chance)
            grow(chance, model, 6)
            for choice, world in model.worlds():
                for lot in model.lots:
                    self.assertEqual(world.mass(lot), model.came(choice, lot))


if __name__ == "__main__":
    unittest.main()
