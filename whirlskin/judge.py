"""One judge: CLAIMS, the PAPERS against them, the REASONS for them."""

from whirlskin.corners import rounds, x_from
from whirlskin.errors import Unfit
from whirlskin.forms import as_tuples, is_number
from whirlskin.gaps import of_one_wish
from whirlskin.heights import counts_by, rises, stand_apart
from whirlskin.lays import bar_of, bars, laid_by
from whirlskin.plans import is_stuck, leads, shortest, stuck_sets
from whirlskin.rings import comes_home
from whirlskin.skins import is_skin
from whirlskin.vanes import over_ring, rows_of_steps, stand_on
from whirlskin.whirls import wish_by
from whirlskin.wishes import first_bar, has_wish_form, wide_by, wide_fit

# For each word how long the tuples are that stand in its CLAIMS, as as_tuples takes them: the word, a SKIN ..
LENGTHS = {
    "x": ((), (None, 4, 2), ()),
    "asked": ((), (None, 4, 2), (2, None), (None, 2), ()),
    "wish": ((), (None, 4, 2), (2, None)),
    "led": ((), (None, 4, 2), (None,), (None,)),
}


def _has_x(claim):
    """Whether the SKIN of claim can rise, and what stands behind it is a number."""
    return rises(claim[1]) and is_number(claim[2])


def _has_asked(claim):
    """Whether what stands in claim behind its SKIN is a WISH that bars_first lets pass, a RING, a number."""
    skin, wish = claim[1], claim[2]
    if not has_wish_form(skin, wish) or first_bar(skin, wish) is not None:
        return False
    return comes_home(skin, claim[3]) and is_number(claim[4])


def _has_wish(claim):
    """Whether what stands in claim behind its SKIN is a WISH."""
    return has_wish_form(claim[1], claim[2])


def _has_vanes(claim):
    """Whether what stands in claim behind its SKIN are VANES of one WISH."""
    skin, near, far = claim[1], claim[2], claim[3]
    return stand_on(skin, near) and stand_on(skin, far) and of_one_wish(skin, (near, far))


FORMS = {"x": _has_x, "asked": _has_asked, "wish": _has_wish, "led": _has_vanes}


def is_claim(thing):
    """Whether thing is a CLAIM."""
    if not isinstance(thing, tuple) or not _has_word(thing) or not is_skin(thing[1]):
        return False
    form = FORMS[thing[0]]
    return form(thing)


def _has_word(thing):
    """Whether thing is a tuple or a list that begins with one of the four words and has the length for it."""
    if not isinstance(thing, (list, tuple)) or len(thing) == 0 or not isinstance(thing[0], str):
        return False
    return thing[0] in LENGTHS and len(thing) == len(LENGTHS[thing[0]])


def _given_claim(claim):
    """The CLAIM that was handed in, in tuples; Unfit() if it is none."""
    if not _has_word(claim):
        raise Unfit()
    own = tuple([as_tuples(part, lengths) for part, lengths in zip(claim, LENGTHS[claim[0]])])
    if not is_claim(own):
        raise Unfit()
    return own


def _x_stands(claim):
    """Whether X of the SKIN is the number."""
    return x_from(claim[1]) == claim[2]


def _asked_stands(claim):
    """Whether the RING is asked for the number."""
    return _asked_sum(claim, wide_by(claim[1], claim[2])) == claim[4]


def _wish_stands(claim):
    """Whether there are VANES of the WISH."""
    return bar_of(claim[1], claim[2]) is None


def _led_stands(claim):
    """Whether a PLAN leads from the one VANES to the other."""
    return not stuck_sets(claim[1], claim[2], claim[3])


STANDS = {"x": _x_stands, "asked": _asked_stands, "wish": _wish_stands, "led": _led_stands}


def is_so(claim):
    """Whether claim stands."""
    return _stands(_given_claim(claim))


def _stands(claim):
    """What is_so tells, of what is a CLAIM."""
    stands = STANDS[claim[0]]
    return stands(claim)


def _heights_for(claim):
    """HEIGHTS of the SKIN: whichever they are, they tell of X."""
    return tuple(range(len(rounds(claim[1]))))


def _wide_for(claim):
    """WIDE STEPS that fit the WISH: whichever they are, they tell what the RING is asked."""
    return wide_by(claim[1], claim[2])


def _bar_for(claim):
    """What bars the WISH."""
    return bar_of(claim[1], claim[2])


def _vanes_for(claim):
    """VANES of the WISH."""
    return laid_by(claim[1], claim[2])


def _stuck_for(claim):
    """TIGHT FIELDS that keep all PLANS from leading there."""
    return min(stuck_sets(claim[1], claim[2], claim[3]))


def _plan_for(claim):
    """A PLAN that leads there."""
    return shortest(claim[1], claim[2], claim[3])


PAPERS = {"x": _heights_for, "asked": _wide_for, "wish": _bar_for, "led": _stuck_for}
REASONS = {"x": _heights_for, "asked": _wide_for, "wish": _vanes_for, "led": _plan_for}


def paper_against(claim):
    """A PAPER against claim; None if it stands."""
    own = _given_claim(claim)
    if _stands(own):
        return None
    paper = PAPERS[own[0]]
    return paper(own)


def reason_for(claim):
    """A REASON for claim; None if it does not stand."""
    own = _given_claim(claim)
    if not _stands(own):
        return None
    reason = REASONS[own[0]]
    return reason(own)


def _x_sum(claim, thing):
    """What the counts of thing come to; None if it is no HEIGHTS of the SKIN."""
    return sum(counts_by(claim[1], thing)) if stand_apart(claim[1], thing) else None


def _asked_sum(claim, thing):
    """What thing comes to over the RING; None if it is no WIDE STEPS that fit the WISH."""
    return over_ring(thing, claim[3]) if wide_fit(claim[1], claim[2], thing) else None


def _is_x_paper(claim, thing):
    """Whether thing is HEIGHTS whose counts come to another number."""
    return _x_sum(claim, thing) not in (None, claim[2])


def _is_x_reason(claim, thing):
    """Whether thing is HEIGHTS whose counts come to the number."""
    return _x_sum(claim, thing) == claim[2]


def _is_asked_paper(claim, thing):
    """Whether thing is WIDE STEPS that fit and come to another number over the RING."""
    return _asked_sum(claim, thing) not in (None, claim[4])


def _is_asked_reason(claim, thing):
    """Whether thing is WIDE STEPS that fit and come to the number over the RING."""
    return _asked_sum(claim, thing) == claim[4]


def _is_wish_paper(claim, thing):
    """Whether thing is one of the BARS of the WISH."""
    return bars(claim[1], claim[2], thing)


def _is_wish_reason(claim, thing):
    """Whether thing is VANES of the WISH."""
    skin = claim[1]
    return stand_on(skin, thing) and wish_by(skin, rows_of_steps(skin, thing)) == claim[2]


def _is_led_paper(claim, thing):
    """Whether thing is a set of one or two TIGHT FIELDS that keep all PLANS from leading there."""
    return is_stuck(claim[1], claim[2], claim[3], thing)


def _is_led_reason(claim, thing):
    """Whether thing is a PLAN that leads there."""
    return leads(claim[1], claim[2], claim[3], thing)


ARE_PAPERS = {"x": _is_x_paper, "asked": _is_asked_paper, "wish": _is_wish_paper, "led": _is_led_paper}
ARE_REASONS = {"x": _is_x_reason, "asked": _is_asked_reason, "wish": _is_wish_reason, "led": _is_led_reason}


def is_paper_against(claim, thing):
    """Whether thing is a PAPER against claim."""
    own = _given_claim(claim)
    is_one = ARE_PAPERS[own[0]]
    return is_one(own, thing)


def is_reason_for(claim, thing):
    """Whether thing is a REASON for claim."""
    own = _given_claim(claim)
    is_one = ARE_REASONS[own[0]]
    return is_one(own, thing)


def first_fallen(claims):
    """The number of the first of these CLAIMS that does not stand; None if all stand."""
    rows = [_given_claim(claim) for claim in claims]
    for number, claim in enumerate(rows):
        if not _stands(claim):
            return number
    return None
