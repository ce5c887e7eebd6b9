"""The names, files and parameters of the interface."""

import importlib
import inspect
import unittest

FUNCTIONS = {
    "words": {"is_name": "value", "is_memory": "value"},
    "events": {"is_event": "town value", "events_of": "town"},
    "states": {"first_state": "town", "is_state": "town value", "can_be": "town state event",
               "after": "town state event", "gain": "event word", "choices": "town state"},
    "runs": {"wrong_refusals": "run"},
    "graphs": {"steps": "town state", "reached_states": "town", "least_events": "town state"},
    "worst": {"most_overspent": "town", "worst_run": "town", "most_after_loss": "town", "loss_run": "town"},
    "honest": {"refused_run": "town", "refusals_of": "town", "taken_twice": "town"},
    "papers": {"most_paper": "town", "loss_paper": "town", "refusal_paper": "town", "twice_paper": "town"},
    "checker": {"lets_most": "town value", "lets_loss": "town value", "lets_refusal": "town value",
                "lets_twice": "town value"},
    "limits": {"keeps_wish": "town wish", "best_limits": "town wish most", "foes": "town limits wish most"},
    "hearing": {"with_link": "town link", "first_link": "town menu", "link_row": "town menu"},
    "sums": {"group_sum": "town", "is_heeding": "town", "is_plain": "town", "has_spare": "town",
             "closed_most": "town", "closed_loss": "town", "accepts_sum": "town paper", "sum_paper": "town"},
    "splits": {"splits": "town whole", "keeping": "town whole wish", "best_splits": "town whole"},
    "linking": {"least_links": "town menu wish"},
    "remembering": {"greatest_memory": "town kind wish", "memories_keeping": "town wish"},
    "ordered": {"taken_more": "one other", "is_stricter": "one other", "are_alike": "one other",
                "parting": "one other", "parts": "one other value"},
    "nights": {"order_of": "town night", "reason": "town night", "is_order": "town night value",
               "run_of": "town night"},
    "texts": {"write_town": "town", "write_events": "events", "read_town": "text", "read_events": "text"},
    "purses": {"shared_sum": "purse", "closed_shared": "purse", "gift": "limits money *cards=1"},
    "days": {"closed_days": "clocks", "has_bound": "clocks"},
    "maps": {"is_outage": "value"},
    "forms": {"parting_limits": "one other", "form_of": "town", "loss_form": "town", "purse_form": "purse",
              "clock_form": "clocks", "reach_form": "reach"},
    "reach": {"is_count": "value many", "is_below": "one other", "reach_of": "chart", "walk_to": "chart count"},
    "purchases": {"most_by": "reach allowance", "most_paid": "chart allowance", "parting_allowance": "one other"},
    "walkpapers": {"most_by_days": "chart limits", "best_walk": "chart limits", "units_of": "walk limits",
                   "never_more": "chart limits", "as_much": "chart limits", "lets_paid": "chart limits value"},
    "areas": {"joined": "chart pair", "joined_limits": "limits pair", "can_be_more": "chart limits pair",
              "least_joins": "chart limits wish", "greatest_outages": "chart limits wish"},
}
CLASSES = {
    ("tills", "Till"): {"__init__": "name limit *heeds=True", "__eq__": "other", "__le__": "other",
                        "changed": "part value"},
    ("towns", "Town"): {
        "__init__": "tills *links=() *money=0 *memory=('nothing',) *tops=0 *numbered=True", "__eq__": "other",
        "__len__": "", "__iter__": "", "__contains__": None, "__getitem__": None, "names": "", "group": "name",
        "with_till": "till", "with_links": "links", "changed": "part value", "with_limits": "limits"},
    ("runs", "Run"): {
        "__init__": "town events", "__eq__": "other", "__len__": "", "words": "", "state": "", "left": "", "paid": "",
        "topped": "", "paid_after_loss": "", "overspent": "", "is_honest": "", "is_wronged": "", "untold": "",
        "then": "event"},
    ("lives", "Life"): {"__init__": "town", "__eq__": "other", "__len__": "", "do": "event", "undo": "", "run": "",
                        "can": "event", "choices": "", "copy": "", "night": ""},
    ("sessions", "Session"): {"__init__": "town", "__len__": "", "current": "", "put": "till", "assign": "part value",
                              "join": "one other", "unjoin": "one other", "undo": "", "attempt": "visitor",
                              "trial": ""},
    ("console", "Console"): {"__init__": "town", "answer": "line"},
    ("purses", "Purse"): {"__init__": "town cards", "__eq__": "other", "all_events": "", "first": "",
                          "choices": "state", "after": "state event", "most": "", "most_run": "", "play": "events"},
    ("days", "Clocks"): {"__init__": "town *days=None", "__eq__": "other", "all_events": "", "first": "",
                         "choices": "state", "after": "state event", "most": "", "most_run": "", "play": "events"},
    ("maps", "Map"): {
        "__init__": "areas paths=() *length=1 *borders=None *outages=None", "__eq__": "other", "__len__": "",
        "__iter__": "", "__contains__": None, "places": "", "area_of": "place", "near": "place", "walked": "place",
        "day": "area phase time", "reach_of_time": "", "with_outages": "outages", "with_borders": "borders"},
    ("forms", "Form"): {"__init__": "many terms", "__len__": "", "__call__": "limits", "__add__": "other",
                        "__or__": "other", "__le__": "other", "__eq__": "other", "needed": ""},
    ("walks", "Walk"): {"__init__": "chart phase begin stops", "__eq__": "other", "__len__": "", "times": "area",
                        "count": "", "counts": ""},
    ("reach", "Reach"): {"__init__": "many counts", "__len__": "", "__iter__": "", "__contains__": None,
                         "__le__": "other", "__or__": "other", "__and__": "other", "__eq__": "other"},
    ("purchases", "Allowance"): {"__init__": "days *outages=None *memory=('nothing',)", "__len__": "",
                                 "__eq__": "other", "worth": "count"},
}


def shown(parameter):
    """A parameter as it is written in the tables above."""
    star = "*" if parameter.kind is parameter.KEYWORD_ONLY else ""
    default = "" if parameter.default is parameter.empty else f"={parameter.default!r}"
    return star + parameter.name + default


def parameters(function):
    return [shown(parameter) for parameter in inspect.signature(function).parameters.values()]


class Interface(unittest.TestCase):
    def test_functions(self):
        for module, functions in FUNCTIONS.items():
            for name, wanted in functions.items():
                function = getattr(importlib.import_module("cutofftills." + module), name)
                self.assertEqual(function.__module__, "cutofftills." + module)
                self.assertEqual(parameters(function), wanted.split(), name)

    def test_methods_stand_in_their_classes(self):
        for (module, name), methods in CLASSES.items():
            cls = getattr(importlib.import_module("cutofftills." + module), name)
            self.assertEqual(cls.__module__, "cutofftills." + module)
            for method, wanted in methods.items():
                self.assertIn(method, vars(cls), name)
                if wanted is not None:
                    self.assertEqual(parameters(vars(cls)[method])[1:], wanted.split(), (name, method))

    def test_the_static_method(self):
        towns = importlib.import_module("cutofftills.towns")
        self.assertIsInstance(vars(towns.Town)["even"], staticmethod)
        self.assertEqual(parameters(towns.Town.even), ["many", "limit", "money"])


if __name__ == "__main__":
    unittest.main()
