"""News: what the hands know of one another's newest deeds, told by few names."""

from handsapart.houses import hands_of, need_hand, need_house, need_letter


def no_news(house):
    need_house(house)
    firsts = tuple([None] * house[0])
    seconds = tuple([firsts] * house[0])
    return tuple([seconds] * house[0])


def stock(house, letter):
    need_house(house)
    need_letter(house, letter)
    return len(hands_of(house, letter)) * house[0] ** 3 + 1


def first_hand(news, hand):
    return news[hand][hand][hand]


def second_hand(news, hand):
    # The newest deed of a hand in the past of its own deed is this deed, so no matter whose news these are,
    # what is third-hand by the hand, and by it again, is what is second-hand by it.
    return news[hand][hand]


def news_behind(house, letter, news):
    need_house(house)
    need_letter(house, letter)
    hands = hands_of(house, letter)
    name = unused_name(letter, news)
    # Of a hand that takes part the deed itself is the newest; of others, what some hand that takes part has newest.
    newest = [newest_about(news, hand) for hand in range(house[0])]
    firsts = tuple([name if hand in hands else first_hand(known, hand) for hand, known in enumerate(newest)])
    seconds = tuple([firsts if hand in hands else second_hand(known, hand) for hand, known in enumerate(newest)])
    thirds = tuple([seconds if hand in hands else known[hand] for hand, known in enumerate(newest)])
    return (name, thirds)


def unused_name(letter, news):
    used = {}
    for known in news:
        for seconds in known:
            for firsts in seconds:
                for name in firsts:
                    used[name] = True
    number = 0
    while (letter, number) in used:
        number += 1
    return (letter, number)


def newest_about(news, hand):
    newest = news[0]
    for known in news:
        if compared(known, newest, hand) > 0:
            newest = known
    return newest


def newer(house, one, other, hand):
    need_house(house)
    need_hand(house, hand)
    return compared(one, other, hand)


def compared(one, other, hand):
    # Both are in use, so the same name is the same deed.
    deed = first_hand(one, hand)
    if deed == first_hand(other, hand):
        return 0
    if deed is None or is_known_to(other, one, hand):
        return -1
    return 1


def is_known_to(other, one, hand):
    # What the pasts of both have in common lies below deeds that are first-hand news of both.
    deed = first_hand(one, hand)
    common = [first_hand(other, via) for via in range(len(other))]
    return any([
        first_hand(one, via) in common and second_hand(one, via)[hand] == deed
        for via in range(len(one))
    ])
