"""Houses: posts to be manned, and hands that can stand at some of them."""

MOST_POSTS = 12
MOST_HANDS = 12


def is_house(posts, able):
    if posts < 0 or posts > MOST_POSTS:
        return False
    if len(able) < 1 or len(able) > MOST_HANDS:
        return False
    return all([rises_below(row, posts) for row in able])


def rises_below(row, posts):
    least = 0
    for post in row:
        if post < least or post >= posts:
            return False
        least = post + 1
    return True


def able_for(able, hands, some):
    return [hand for hand in hands if stands_at_one(able[hand], some)]


def stands_at_one(row, some):
    return any([post in some for post in row])


def lack_of(able, hands, some):
    return len(some) - len(able_for(able, hands, some))
