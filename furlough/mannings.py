"""Mannings: a hand for each post, or the posts for which hands are lacking.

Within this module places has, for each post, the hand that stands there, or None; and ways
has, for each hand that can be moved nearer to the posts one starts from, the post it would
move to.
"""


def manning_of(posts, able, hands):
    places = [None] * posts
    for post in range(posts):
        man_post(able, hands, places, post)
    bare = [post for post in range(posts) if places[post] is None]
    if not bare:
        return ("manned", places)
    return ("short", lacking_from(able, hands, places, bare))


def man_post(able, hands, places, post):
    ways = ways_from(able, hands, places, [post])
    free = [hand for hand in ways if hand not in places]
    # A post for which no way ends at a free hand stays bare: no later move opens one,
    # so each post need be tried but once.
    if free:
        move_along(places, ways, free[0])


def ways_from(able, hands, places, starts):
    ways = {}
    waiting = list(starts)
    while waiting:
        post = waiting.pop()
        for hand in hands:
            if post in able[hand] and hand not in ways:
                ways[hand] = post
                if hand in places:
                    waiting.append(places.index(hand))
    return ways


def move_along(places, ways, free):
    hand = free
    while hand is not None:
        post = ways[hand]
        moved = places[post]
        places[post] = hand
        hand = moved


def lacking_from(able, hands, places, bare):
    # Every set with the greatest lack has all bare posts, and with a post also those where
    # the hands able for it stand now; what is drawn in so, and no more, is the least of them.
    ways = ways_from(able, hands, places, bare)
    return sorted(bare + [places.index(hand) for hand in ways])


def is_manning(posts, able, hands, places):
    if len(places) != posts or len(set(places)) != len(places):
        return False
    return all([hand in hands and post in able[hand] for post, hand in enumerate(places)])
