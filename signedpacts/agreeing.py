"""Agreeing on an amendment by letters that may be lost ([84])."""
from signedpacts.deciders import Decider
from signedpacts.drafts import Draft
from signedpacts.errors import NotAllowed
from signedpacts.exchanges import ENDS, Exchange, check_bits, check_fates


def agree(rule, draft, amendment, wishes, fates):
    """The drafts that the first and the second end hold after they have written letters about an amendment."""
    check_fates(fates)
    check_bits(wishes)
    amended = Draft([*draft.amendments, amendment])
    decider = Decider(rule)
    if len(fates) != decider.round_count or fates not in rule.unending():
        raise NotAllowed()
    exchange = Exchange(wishes[0], wishes[1], fates)
    return tuple([amended if decider(end, exchange.seen(end)) == 1 else draft for end in ENDS])
