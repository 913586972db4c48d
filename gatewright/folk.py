"""Folk: the people of a field of names, and the groups of them."""

from gatewright.errors import NoName, Ring
from gatewright.words import is_name


class Folk:
    """People and groups; a group has members, people and other groups, and is never in itself."""

    def __init__(self, people):
        self.names = tuple(people)
        # The members of each group by its name, as they were put.
        self.members = {}

    def people(self):
        """The people, as told."""
        return list(self.names)

    def put(self, group, member):
        """Makes one a member of a group, which is begun, if it isn't there; NoName, then Ring."""
        if not is_name(group) or group in self.names:
            raise NoName("no name of a group")
        # Looked at only where it is a text, for other things may not let themselves be compared.
        if not isinstance(member, str) or not (member == group or self.has_word(member)):
            raise NoName("neither one of the people nor a group")
        if member == group or self.is_group(group) and member in self.groups_of(group):
            raise Ring("a group would be in itself")
        members = self.members.setdefault(group, [])
        if member not in members:
            members.append(member)

    def take(self, group, member):
        """Takes a member from a group; NoName where it isn't straight in that group."""
        if not self.is_group(group) or not isinstance(member, str) or member not in self.members[group]:
            raise NoName("no member of that group")
        self.members[group].remove(member)

    def in_it(self, word):
        """The people in a group, in the people's order; of one of the people that one."""
        self.need_word(word)
        seen = {word: True}
        waiting = [word]
        while waiting:
            outer = waiting.pop()
            for member in self.members.get(outer, []):
                if member not in seen:
                    seen[member] = True
                    waiting.append(member)
        return [name for name in self.names if name in seen]

    def groups_of(self, word):
        """The groups in which one of the people or a group is, straight or not, rising."""
        self.need_word(word)
        seen = {}
        waiting = [word]
        while waiting:
            inner = waiting.pop()
            for group, members in self.members.items():
                if inner in members and group not in seen:
                    seen[group] = True
                    waiting.append(group)
        return sorted(list(seen))

    def straight(self, group):
        """The members of a group, as put; NoName of what is no group."""
        if not self.is_group(group):
            raise NoName("no group")
        return list(self.members[group])

    def groups(self):
        """The names of the groups, rising."""
        return sorted(list(self.members))

    def is_group(self, word):
        """Tells whether a thing is the name of a group that is there."""
        return isinstance(word, str) and word in self.members

    def has_word(self, word):
        """Tells whether a thing is one of the people or a group that is there."""
        return self.is_group(word) or isinstance(word, str) and word in self.names

    def need_word(self, word):
        """Refuses with NoName what is neither one of the people nor a group that is there."""
        if not self.has_word(word):
            raise NoName("neither one of the people nor a group")
