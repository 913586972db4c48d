import random
import unittest

from gatewright.errors import GateError, NoName, Ring
from gatewright.folk import Folk
from tests.odd import Thorny, odd_lists, odd_numbers, odd_things

PEOPLE = ["dan", "ann", "cy", "bob"]
TUPLES = [(), ("ann",), ("crew",), (None,)]
NO_NAMES = ["", "abcdefghi", "Ann", "a1", "a b", " ann", "ann ", "ann\n", "a/b", "a-b", "a_b", "\u00e9", "\u0131",
            "\uff41"]


def crew():
    """Folk with groups in groups: top has crew and ann, crew has bob and dan, none has nobody."""
    folk = Folk(list(PEOPLE))
    for group, member in (("crew", "bob"), ("crew", "dan"), ("top", "crew"), ("top", "ann"), ("none", "cy")):
        folk.put(group, member)
    folk.take("none", "cy")
    return folk


def told(folk):
    """All that can be asked of folk."""
    words = folk.people() + folk.groups()
    return (folk.people(), folk.groups(), [folk.straight(group) for group in folk.groups()],
            [folk.in_it(word) for word in words], [folk.groups_of(word) for word in words])


class Ordinary(unittest.TestCase):
    def test_people_as_told(self):
        self.assertEqual(Folk(PEOPLE).people(), PEOPLE)
        self.assertEqual(Folk(["a"]).people(), ["a"])
        self.assertIs(type(Folk(PEOPLE).people()), list)

    def test_no_groups_at_first(self):
        folk = Folk(PEOPLE)
        self.assertEqual(folk.groups(), [])
        for name in PEOPLE:
            self.assertEqual(folk.in_it(name), [name])
            self.assertEqual(folk.groups_of(name), [])

    def test_put_tells_none_and_begins_the_group(self):
        folk = Folk(PEOPLE)
        self.assertIsNone(folk.put("crew", "bob"))
        self.assertEqual(folk.groups(), ["crew"])
        self.assertEqual(folk.straight("crew"), ["bob"])
        self.assertIsNone(folk.put("crew", "ann"))
        self.assertEqual(folk.straight("crew"), ["bob", "ann"])

    def test_a_member_that_is_there_stays_where_it_is(self):
        folk = Folk(PEOPLE)
        for member in ("bob", "ann", "cy", "bob", "ann", "bob"):
            self.assertIsNone(folk.put("crew", member))
        self.assertEqual(folk.straight("crew"), ["bob", "ann", "cy"])
        folk.put("top", "crew")
        folk.put("top", "dan")
        folk.put("top", "crew")
        self.assertEqual(folk.straight("top"), ["crew", "dan"])

    def test_straight_as_put_and_in_it_as_the_people(self):
        folk = Folk(PEOPLE)
        for member in ("bob", "cy", "ann", "dan"):
            folk.put("all", member)
        self.assertEqual(folk.straight("all"), ["bob", "cy", "ann", "dan"])
        self.assertEqual(folk.in_it("all"), ["dan", "ann", "cy", "bob"])

    def test_groups_rise(self):
        folk = Folk(PEOPLE)
        for group in ("top", "b", "crew", "a", "abc", "zz", "ab"):
            folk.put(group, "ann")
        self.assertEqual(folk.groups(), ["a", "ab", "abc", "b", "crew", "top", "zz"])
        self.assertEqual(folk.groups_of("ann"), ["a", "ab", "abc", "b", "crew", "top", "zz"])

    def test_groups_in_groups(self):
        folk = crew()
        self.assertEqual(folk.straight("top"), ["crew", "ann"])
        self.assertEqual(folk.in_it("top"), ["dan", "ann", "bob"])
        self.assertEqual(folk.in_it("crew"), ["dan", "bob"])
        self.assertEqual(folk.groups_of("bob"), ["crew", "top"])
        self.assertEqual(folk.groups_of("ann"), ["top"])
        self.assertEqual(folk.groups_of("crew"), ["top"])
        self.assertEqual(folk.groups_of("top"), [])
        self.assertEqual(folk.groups_of("cy"), [])

    def test_through_several_steps(self):
        folk = Folk(["ann", "bob"])
        folk.put("a", "ann")
        for inner, outer in (("a", "f"), ("f", "b"), ("b", "e"), ("e", "c"), ("c", "d")):
            folk.put(outer, inner)
        self.assertEqual(folk.groups_of("ann"), ["a", "b", "c", "d", "e", "f"])
        self.assertEqual(folk.groups_of("a"), ["b", "c", "d", "e", "f"])
        self.assertEqual(folk.groups_of("e"), ["c", "d"])
        self.assertEqual(folk.in_it("d"), ["ann"])
        folk.put("b", "bob")
        self.assertEqual(folk.in_it("d"), ["ann", "bob"])
        self.assertEqual(folk.in_it("f"), ["ann"])

    def test_by_two_ways(self):
        folk = Folk(["ann", "bob"])
        for group, member in (("a", "ann"), ("b", "a"), ("c", "a"), ("d", "b"), ("d", "c"), ("d", "ann")):
            folk.put(group, member)
        self.assertEqual(folk.in_it("d"), ["ann"])
        self.assertEqual(folk.groups_of("ann"), ["a", "b", "c", "d"])
        folk.take("d", "ann")
        folk.take("d", "b")
        self.assertEqual(folk.in_it("d"), ["ann"])
        folk.take("d", "c")
        self.assertEqual(folk.in_it("d"), [])

    def test_take(self):
        folk = crew()
        self.assertIsNone(folk.take("crew", "bob"))
        self.assertEqual(folk.straight("crew"), ["dan"])
        self.assertEqual(folk.in_it("top"), ["dan", "ann"])
        self.assertIsNone(folk.take("top", "crew"))
        self.assertEqual(folk.in_it("top"), ["ann"])
        self.assertEqual(folk.groups(), ["crew", "none", "top"])
        self.assertEqual(folk.in_it("crew"), ["dan"])

    def test_taken_and_put_again_is_last(self):
        folk = Folk(PEOPLE)
        for member in ("bob", "ann", "cy"):
            folk.put("crew", member)
        folk.take("crew", "bob")
        folk.put("crew", "bob")
        self.assertEqual(folk.straight("crew"), ["ann", "cy", "bob"])

    def test_an_empty_group(self):
        folk = crew()
        self.assertEqual(folk.groups(), ["crew", "none", "top"])
        self.assertEqual(folk.straight("none"), [])
        self.assertEqual(folk.in_it("none"), [])
        self.assertEqual(folk.groups_of("none"), [])
        folk.put("crew", "none")
        self.assertEqual(folk.groups_of("none"), ["crew", "top"])
        folk.put("none", "cy")
        self.assertEqual(folk.in_it("top"), PEOPLE)

    def test_names_of_one_and_of_eight_letters(self):
        folk = Folk(["a", "abcdefgh"])
        folk.put("z", "a")
        folk.put("zyxwvuts", "abcdefgh")
        self.assertEqual(folk.groups(), ["z", "zyxwvuts"])


class Refused(unittest.TestCase):
    def refused(self, error, asked, *words):
        folk = crew()
        before = told(folk)
        with self.assertRaises(error) as caught:
            getattr(folk, asked)(*words)
        self.assertIs(type(caught.exception), error)
        self.assertIsInstance(caught.exception, GateError)
        self.assertEqual(told(folk), before)

    def odd(self):
        return odd_things() + odd_lists() + odd_numbers() + TUPLES + NO_NAMES

    def test_put_into_no_group(self):
        for group in self.odd() + PEOPLE:
            for member in ("ann", "crew", "zed", None, group):
                self.refused(NoName, "put", group, member)

    def test_put_of_no_member(self):
        for member in self.odd() + ["zed", "crewx", "cre"]:
            for group in ("crew", "top", "none", "fresh"):
                self.refused(NoName, "put", group, member)

    def test_a_refused_put_begins_no_group(self):
        folk = Folk(PEOPLE)
        for member in ("zed", None, [], Thorny(), "fresh"):
            with self.assertRaises(GateError):
                folk.put("fresh", member)
        self.assertEqual(folk.groups(), [])
        with self.assertRaises(NoName):
            folk.straight("fresh")
        with self.assertRaises(NoName):
            folk.put("other", "fresh")

    def test_ring_of_one_step(self):
        for group in ("crew", "top", "none", "fresh"):
            self.refused(Ring, "put", group, group)

    def test_ring_of_several_steps(self):
        self.refused(Ring, "put", "crew", "top")
        folk = Folk(["ann"])
        folk.put("a", "ann")
        for inner, outer in (("a", "b"), ("b", "c"), ("c", "d"), ("d", "e")):
            folk.put(outer, inner)
        before = told(folk)
        for outer in ("b", "c", "d", "e"):
            with self.assertRaises(Ring):
                folk.put("a", outer)
        with self.assertRaises(Ring):
            folk.put("c", "e")
        self.assertEqual(told(folk), before)
        folk.take("c", "b")
        self.assertIsNone(folk.put("a", "e"))
        with self.assertRaises(Ring):
            folk.put("c", "b")

    def test_no_ring_by_two_ways(self):
        folk = crew()
        folk.put("none", "top")
        self.assertIsNone(folk.put("none", "crew"))
        self.assertIsNone(folk.put("fresh", "none"))

    def test_no_name_ahead_of_ring(self):
        self.refused(NoName, "put", "ann", "ann")
        self.refused(NoName, "put", "Top", "Top")
        self.refused(NoName, "put", "", "")
        self.refused(NoName, "put", "abcdefghi", "abcdefghi")
        self.refused(NoName, "put", None, None)

    def test_take_of_what_is_not_straight_in_it(self):
        for member in self.odd() + ["zed", "bob", "top", "cy"]:
            self.refused(NoName, "take", "top", member)
        for group in self.odd() + ["zed", "ann", "none"]:
            self.refused(NoName, "take", group, "ann")
        self.refused(NoName, "take", None, None)

    def test_take_twice(self):
        folk = crew()
        folk.take("crew", "bob")
        with self.assertRaises(NoName):
            folk.take("crew", "bob")
        self.assertEqual(folk.straight("crew"), ["dan"])

    def test_asked_of_what_is_not_there(self):
        for word in self.odd() + ["zed", "crewx"]:
            for asked in ("in_it", "groups_of", "straight"):
                self.refused(NoName, asked, word)

    def test_straight_of_one_of_the_people(self):
        for name in PEOPLE:
            self.refused(NoName, "straight", name)


class TheAskersOwn(unittest.TestCase):
    def test_the_list_that_was_handed_in(self):
        people = list(PEOPLE)
        folk = Folk(people)
        self.assertEqual(people, PEOPLE)
        people.clear()
        self.assertEqual(folk.people(), PEOPLE)
        folk.put("crew", "ann")
        self.assertEqual(people, [])
        people.append("zed")
        with self.assertRaises(NoName):
            folk.put("crew", "zed")

    def test_told_lists(self):
        folk = crew()
        before = told(folk)
        for one in (folk.people(), folk.groups(), folk.straight("crew"), folk.straight("none"), folk.in_it("top"),
                    folk.in_it("ann"), folk.in_it("none"), folk.groups_of("bob"), folk.groups_of("cy")):
            self.assertIs(type(one), list)
            one.append("zed")
            one[0] = "zap"
            one.reverse()
            self.assertEqual(told(folk), before)

    def test_what_is_done_later_changes_nothing_told(self):
        folk = crew()
        straight, groups, people = folk.straight("crew"), folk.groups(), folk.in_it("crew")
        folk.put("crew", "cy")
        folk.put("fresh", "cy")
        folk.take("crew", "bob")
        self.assertEqual((straight, groups, people), (["bob", "dan"], ["crew", "none", "top"], ["dan", "bob"]))

    def test_two_do_not_touch_one_another(self):
        people = list(PEOPLE)
        one, other = Folk(people), Folk(people)
        one.put("crew", "ann")
        self.assertEqual(other.groups(), [])
        other.put("crew", "bob")
        self.assertEqual((one.straight("crew"), other.straight("crew")), (["ann"], ["bob"]))
        one.take("crew", "ann")
        self.assertEqual(other.straight("crew"), ["bob"])


class Looked(unittest.TestCase):
    def within(self, members, word):
        """All that is in a group by however many steps, looked for without regard to rings."""
        found = set(members.get(word, ()))
        for member in members.get(word, ()):
            found |= self.within(members, member)
        return found

    def test_many_puts_and_takes(self):
        chance = random.Random(11)
        names = ["ann", "bob", "cy", "dan"]
        groups = ["g", "h", "i", "j", "k"]
        for _ in range(60):
            folk, members = Folk(names), {}
            for _ in range(40):
                group, member = chance.choice(groups), chance.choice(names + groups)
                if chance.random() < 0.3:
                    if member in members.get(group, []):
                        self.assertIsNone(folk.take(group, member))
                        members[group].remove(member)
                    else:
                        self.assertRaises(NoName, folk.take, group, member)
                elif member not in names and member not in members and member != group:
                    self.assertRaises(NoName, folk.put, group, member)
                elif member == group or group in self.within(members, member):
                    self.assertRaises(Ring, folk.put, group, member)
                else:
                    self.assertIsNone(folk.put(group, member))
                    members.setdefault(group, [])
                    if member not in members[group]:
                        members[group].append(member)
            self.assertEqual(folk.groups(), sorted(members))
            for word in names + sorted(members):
                inside = self.within(members, word) | {word}
                self.assertEqual(folk.in_it(word), [name for name in names if name in inside])
                outside = [group for group in sorted(members) if word in self.within(members, group)]
                self.assertEqual(folk.groups_of(word), outside)
            for group in members:
                self.assertEqual(folk.straight(group), members[group])


class Methods(unittest.TestCase):
    def test_stand_in_the_class(self):
        for method in ("people", "put", "take", "in_it", "groups_of", "straight", "groups"):
            self.assertIn(method, vars(Folk))
