"""Memories: what a hand keeps of a row, and what a deed makes of the memories of its hands."""

from handsapart.errors import Torn
from handsapart.houses import hands_of, letters_of, need_letter
from handsapart.judging import judged
from handsapart.machines import least_of
from handsapart.news import first_hand, newest_about, news_behind, no_news, second_hand


def no_deeds(house, machine):
    need_untorn(house, machine)
    return memory_of_none(house, least_of(machine))


def deed_done(house, machine, letter, memories):
    need_untorn(house, machine)
    need_letter(house, letter)
    return deed(house, least_of(machine), letter, memories)


def room_of(house, machine, memories):
    need_untorn(house, machine)
    return room_known(memories)


def need_untorn(house, machine):
    torn = judged(house, machine)
    if torn is not None:
        raise Torn(torn[0], torn[1])


# From here on the machine is a least one that is judged None.

def memory_of_none(house, machine):
    stay = tuple(range(len(machine[0])))
    return (no_news(house), tuple([stay] * sets_of_hands(house)))


def sets_of_hands(house):
    return 1 << house[0]


def is_in_set(hand, number):
    return (number >> hand) & 1 == 1


def deed(house, machine, letter, memories):
    told = news_behind(house, letter, [news for news, changes in memories])
    changes = [change_beyond(house, machine, letter, memories, number) for number in range(sets_of_hands(house))]
    return (told[0], (told[1], tuple(changes)))


def change_beyond(house, machine, letter, memories, number):
    beyond = [hand for hand in range(house[0]) if is_in_set(hand, number)]
    # All that is known behind the deed lies below it, so nothing is left beyond a hand that takes part.
    if any([hand in hands_of(house, letter) for hand in beyond]):
        return tuple(range(len(machine[0])))
    place = letters_of(house).index(letter)
    change = change_together(memories, names_below_newest(memories, beyond))
    return tuple([machine[0][room][place] for room in change])


def names_below_newest(memories, beyond):
    news = [known for known, changes in memories]
    names = []
    for hand in beyond:
        names.extend(second_hand(newest_about(news, hand), hand))
    return names


def change_together(memories, names):
    # What a past has in common with others lies below first-hand news of its hand whose names the others know, too;
    # so of each hand in turn its change beyond those is what is new. No past is below None, so None does no harm.
    passed = list(names)
    change = list(range(len(memories[0][1][0])))
    for news, changes in memories:
        firsts = [first_hand(news, hand) for hand in range(len(news))]
        number = sum([1 << hand for hand, name in enumerate(firsts) if name in passed])
        change = [changes[number][room] for room in change]
        passed.extend(firsts)
    return change


def room_known(memories):
    return change_together(memories, [])[0]


def all_behind(house, letter, memories, memory):
    # The hands of the letter share the memory behind the deed; the others keep theirs.
    hands = hands_of(house, letter)
    return [memory if hand in hands else kept for hand, kept in enumerate(memories)]


def of_hands(house, letter, memories):
    return [memories[hand] for hand in hands_of(house, letter)]
