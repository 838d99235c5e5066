"""The interface: each name is defined in its file and takes the told arguments, and rests on no other module's def."""

import importlib
import inspect
import unittest

INTERFACE = {
    "fractions": {"is_fraction": 1, "fraction_of": 2, "fraction_sum": 2, "fraction_times": 2, "fraction_over": 2,
                  "row_parts": 2},
    "tables": {"is_table": 1, "is_unit": 1, "is_row": 2, "unit": 1, "row_times": 2, "times": 2, "turned_over": 1,
               "stacked": 2},
    "deeds": {"done": 2, "deeds_table": 2, "led_back": 1},
    "backs": {"corner_of": 1, "corners_of": 2, "back_of": 1, "is_back": 2},
    "texts": {"fraction_text": 1, "row_text": 1, "read_fraction": 1, "read_row": 1, "table_lines": 1, "deeds_lines": 1,
              "read_table": 1, "read_deeds": 2},
    "stepchecker": {"is_steps": 1, "lets_steps": 2},
    "stepping": {"steps_of": 1, "steps_paper": 1, "leads_of": 1, "rank_of": 1, "steps_deeds": 1},
    "alikechecker": {"lets_alike": 3},
    "aliking": {"alike_paper": 2, "are_alike": 2},
    "shortchecker": {"lets_short": 2},
    "shorts": {"short_paper": 1, "short_lengths": 1},
    "pointchecker": {"lets_point": 3},
    "points": {"point_paper": 2, "rest_of": 2},
    "answerchecker": {"lets_answers": 3, "free_rows": 1, "answer_at": 2, "numbers_of": 2},
    "answers": {"answers_paper": 2},
    "lattices": {"form_of": 1, "most_of": 1, "joined": 2, "common_part": 2, "inside": 2, "index_of": 2},
    "keeper": {"Keeper": 1},
    "roundchecker": {"is_rounds": 1, "downs_of": 1, "lets_rounds": 2},
    "rounding": {"rounds_of": 1, "rounds_paper": 1, "rounds_deeds": 1},
    "equalchecker": {"lets_equal": 3},
    "equaling": {"equal_paper": 2},
    "leaving": {"left_by": 1, "classes_of": 1, "order_of": 2, "killed_by": 2, "maps": 2, "beside": 2},
    "places": {"place_of": 2, "place_sum": 3, "point_at": 2},
    "polys": {"is_poly": 1, "poly_sum": 2, "poly_times": 2, "poly_scaled": 2, "poly_value": 2, "poly_over": 2,
              "poly_shared": 2},
    "ptables": {"is_ptable": 1, "punit": 1, "ptimes": 2, "pturned_over": 1},
    "pdeeds": {"pdone": 2, "pdeeds_table": 2, "pled_back": 1},
    "pcorners": {"pcorner": 1, "pback_of": 1},
    "pstepchecker": {"is_psteps": 1, "lets_psteps": 2},
    "pstepping": {"psteps_of": 1, "psteps_paper": 1},
    "proundchecker": {"is_prounds": 1, "lets_prounds": 2},
    "prounding": {"prounds_of": 1, "prounds_paper": 1},
    "palikechecker": {"lets_palike": 3},
    "paliking": {"palike_paper": 2},
    "characters": {"character_of": 1, "poly_at": 2},
    "twinchecker": {"lets_twins": 3},
    "twinning": {"twins_paper": 2, "least_poly": 1},
    "desk": {"Desk": 0},
}
METHODS = {
    ("keeper", "Keeper"): {"put": 1, "out": 1, "kept": 0, "form_now": 0, "rest": 1, "has": 1, "paper": 1},
    ("desk", "Desk"): {"say": 1},
}


class Interface(unittest.TestCase):
    def test_each_name_is_defined_in_its_file(self):
        for module, names in INTERFACE.items():
            loaded = importlib.import_module("stepforms." + module)
            for name, count in names.items():
                told = getattr(loaded, name)
                self.assertEqual(told.__module__, loaded.__name__)
                self.assertEqual(len(inspect.signature(told).parameters), count, name)

    def test_each_method_is_defined_in_its_class(self):
        for (module, name), methods in METHODS.items():
            told = getattr(importlib.import_module("stepforms." + module), name)
            for method, count in methods.items():
                self.assertIn(method, vars(told))
                self.assertEqual(len(inspect.signature(vars(told)[method]).parameters), count + 1, method)


if __name__ == "__main__":
    unittest.main()
