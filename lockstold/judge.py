"""CLAIMS, and one judge for all PAPERS that they are so or are not."""

from lockstold.checks import SHOPS
from lockstold.errors import CanNot, NoWord, Unfit
from lockstold.liars import all_fewest_out, fewest_out, is_leaving, is_papers_apart
from lockstold.locks import is_lock
from lockstold.mirrors import can_share, dealt, fewest_mirrors, is_apart_rows, is_dealt
from lockstold.plain import frozen, is_number_from, is_row_number, is_same, is_tuple_of
from lockstold.ranks import fits_rank, is_rank, is_rank_paper, least_rank, rank_paper
from lockstold.shelves import is_shelf, shop_of
from lockstold.tellings import is_telling, tells
from lockstold.told import against, has_shelf, is_against, tight_shelf
from lockstold.tomorrow import can_answer, is_why_not_answer, told_next, why_not_answer
from lockstold.windows import day_knot, day_order, is_day_knot, is_day_order
from lockstold.wishes import is_wish
from lockstold.worn import alike_on, is_parting_wish, parting_wish, worn
from lockstold.woven import gap, is_gap, is_lenders, is_woven, lenders

# What stands behind each word in a CLAIM.
PARTS = {
    "told": ("shop", "telling"),
    "alike": ("number", "shelf", "shelf"),
    "woven": ("shop", "telling", "number", "lock"),
    "come": ("shop", "telling", "number", "wish", "answer"),
    "out": ("shop", "telling", "number"),
    "mirrors": ("shop", "telling", "number"),
    "ranked": ("shop", "telling"),
    "ordered": ("telling",),
}


def is_claim(thing):
    if not isinstance(thing, tuple) or thing == () or not isinstance(thing[0], str) or thing[0] not in PARTS:
        return False
    kinds, parts = PARTS[thing[0]], thing[1:]
    return len(parts) == len(kinds) and all([_is_part(kind, own) for kind, own in zip(kinds, parts)])


def is_so(claim):
    word, parts = _fit_claim(claim)
    asked = ASKED[word]
    return asked(*parts)


def paper(claim):
    """A PAPER that claim is so, or that it is not, whichever is the case."""
    word, parts = _fit_claim(claim)
    so = is_so(claim)
    made = PAPERS[word]
    return made(so, *parts)


def is_paper(claim, thing):
    return shows(claim, thing) is not None


def shows(claim, thing):
    """True or False if thing is a PAPER that claim is so, or is not; None if it is none."""
    word, parts = _fit_claim(claim)
    so = is_so(claim)
    fits = JUDGES[word]
    return so if fits(so, thing, *parts) else None


def not_so(claims):
    """The numbers of those of claims that are not so."""
    return tuple([at for at, claim in enumerate(claims) if not is_so(claim)])


def words_so(claims):
    """The words that some of claims have of which all that have them are so."""
    known = [is_so(claim) for claim in claims]
    words = [claim[0] for claim in claims]
    false = {word: True for word, so in zip(words, known) if not so}
    return tuple(sorted({word for word in words if word not in false}))


def _fit_claim(claim):
    """The word of claim, and the tuple of what stands behind it."""
    held = frozen(claim)
    if held == () or not isinstance(held[0], str):
        raise Unfit()
    if held[0] not in PARTS:
        raise NoWord(held[0])
    if len(held) != len(PARTS[held[0]]) + 1:
        raise Unfit()
    return held[0], held[1:]


def _is_part(kind, thing):
    if kind == "shop":
        return thing in SHOPS
    if kind == "number":
        return is_number_from(0, thing)
    if kind == "telling":
        return is_telling(thing)
    if kind == "shelf":
        return is_shelf(thing)
    if kind == "wish":
        return is_wish(thing)
    return is_lock(thing) or (kind == "answer" and thing is None)


def _is_teller(shop, telling, thing):
    """Whether thing is a SHELF of this SHOP that tells telling."""
    # What is still is growing, too, and all is short.
    if not is_shelf(thing) or SHOPS.index(shop_of(thing)) > SHOPS.index(shop):
        return False
    return tells(thing, telling)


def _is_told(shop, telling):
    return has_shelf(telling, shop)


def _told_paper(so, shop, telling):
    return tight_shelf(telling, shop) if so else against(telling, shop)


def _is_told_paper(so, thing, shop, telling):
    return _is_teller(shop, telling, thing) if so else is_against(telling, shop, thing)


def _are_alike(day, one, other):
    return alike_on(one, other, day)


def _alike_paper(so, day, one, other):
    return worn(one, day) if so else parting_wish(one, other, day)


def _is_alike_paper(so, thing, day, one, other):
    return is_same(thing, worn(one, day)) if so else is_parting_wish(one, other, day, thing)


def _is_woven(shop, telling, day, lock):
    return is_woven(telling, shop, day, lock)


def _woven_paper(so, shop, telling, day, lock):
    return lenders(telling, shop, day, lock) if so else gap(telling, shop, day, lock)


def _is_woven_paper(so, thing, shop, telling, day, lock):
    return is_lenders(telling, shop, day, lock, thing) if so else is_gap(telling, shop, day, lock, thing)


def _can_come(shop, telling, day, wish, given):
    return can_answer(telling, shop, day, wish, given)


def _come_paper(so, shop, telling, day, wish, given):
    if not so:
        return why_not_answer(telling, shop, day, wish, given)
    return tight_shelf(told_next(telling, shop, day, wish, given), shop)


def _is_come_paper(so, thing, shop, telling, day, wish, given):
    if not so:
        return is_why_not_answer(telling, shop, day, wish, given, thing)
    return _is_teller(shop, telling + ((day, wish, given),), thing)


def _is_out(shop, telling, many):
    return fewest_out(telling, shop) <= many


def _out_paper(so, shop, telling, many):
    # Of a CLAIM that is not so a fewest LEAVING is the PAPER: it has more ROWS than many.
    return all_fewest_out(telling, shop)[0]


def _is_out_paper(so, thing, shop, telling, many):
    if so:
        return is_leaving(telling, shop, thing) and len(thing) <= many
    if is_leaving(telling, shop, thing):
        return len(thing) == fewest_out(telling, shop)
    return is_papers_apart(telling, shop, thing) and len(thing) > many


def _is_mirrored(shop, telling, many):
    try:
        return fewest_mirrors(telling, shop) <= many
    except CanNot:
        return False


def _mirrors_paper(so, shop, telling, many):
    alone = [at for at in range(len(telling)) if not can_share(telling, shop, (at,))]
    return dealt(telling, shop) if alone == [] else ("alone", alone[0])


def _is_mirrors_paper(so, thing, shop, telling, many):
    if so:
        return is_dealt(telling, shop, thing) and len(thing) <= many
    if is_tuple_of(2, thing) and thing[0] == "alone":
        return is_row_number(len(telling), thing[1]) and not can_share(telling, shop, (thing[1],))
    if is_dealt(telling, shop, thing):
        return len(thing) == fewest_mirrors(telling, shop)
    return is_apart_rows(telling, shop, thing) and len(thing) > many


def _is_ranked(shop, telling):
    try:
        least_rank(telling, shop)
    except CanNot:
        return False
    return True


def _ranked_paper(so, shop, telling):
    return least_rank(telling, shop) if so else rank_paper(telling, shop)


def _is_ranked_paper(so, thing, shop, telling):
    if so:
        return is_rank(telling, thing) and fits_rank(telling, shop, thing)
    return is_rank_paper(telling, shop, thing)


def _is_ordered(telling):
    try:
        day_order(telling)
    except CanNot:
        return False
    return True


def _ordered_paper(so, telling):
    return day_order(telling) if so else day_knot(telling)


def _is_ordered_paper(so, thing, telling):
    return is_day_order(telling, thing) if so else is_day_knot(telling, thing)


# By the word of a CLAIM: whether it is so; a PAPER of it; whether a thing is a PAPER that it is so, or that it is not.
ASKED = {"told": _is_told, "alike": _are_alike, "woven": _is_woven, "come": _can_come, "out": _is_out,
         "mirrors": _is_mirrored, "ranked": _is_ranked, "ordered": _is_ordered}
PAPERS = {"told": _told_paper, "alike": _alike_paper, "woven": _woven_paper, "come": _come_paper, "out": _out_paper,
          "mirrors": _mirrors_paper, "ranked": _ranked_paper, "ordered": _ordered_paper}
JUDGES = {"told": _is_told_paper, "alike": _is_alike_paper, "woven": _is_woven_paper, "come": _is_come_paper,
          "out": _is_out_paper, "mirrors": _is_mirrors_paper, "ranked": _is_ranked_paper, "ordered": _is_ordered_paper}
