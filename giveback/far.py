"""The standing behind any number of beats, on or back."""

from giveback.beats import following, nought_on, plus, run_on, turned_about
from giveback.errors import NoBeats, TooGreat
from giveback.kinds import kinds_of
from giveback.returning import is_nought, standing_on
from giveback.shapes import part_home_beats
from giveback.waves import stretch_from, wave_beats
from giveback.webs import need_standing
from giveback.wholes import is_between

MOST_BEATS = 10 ** 18
TOO_GREAT = (10 ** 60) ** 5


def standing_behind(web, standing, beats):
    """The standing behind so many beats, below nought by beats back."""
    need_standing(web, standing)
    if not is_between(beats, -MOST_BEATS, MOST_BEATS):
        raise NoBeats(beats)
    if beats < 0:
        return turned_about(far_on(web, turned_about(standing), -beats))
    return far_on(web, standing, beats)


def far_on(web, standing, beats):
    """The standing behind so many beats on."""
    kinds = kinds_of(web)
    growing = [post for posts, word, _ in kinds if word == "none" for post in posts]
    found = far_on_none(web, standing_on(growing, standing), beats)
    for posts, word, _ in kinds:
        alone = standing_on(posts, standing)
        if word == "all":
            found = plus(found, run_on(web, alone, beats % part_home_beats(web, posts))[-1], 1)
        if word == "waves":
            found = plus(found, far_on_waves(web, posts, alone, beats), 1)
    return found


def far_on_none(web, standing, beats):
    """The same, of a standing that is nought but on parts of the kind none; refused where numbers grow too great."""
    if is_nought(standing):
        return nought_on(web)
    for gone in range(1, beats + 1):
        standing = following(web, standing)
        if max([abs(number) for number in standing[1]]) > TOO_GREAT:
            raise TooGreat(gone)
    return standing


def far_on_waves(web, posts, standing, beats):
    """The same, of a standing of one part of waves."""
    turn = wave_beats(web, posts)
    while beats >= turn:
        _, more, rounds = stretch_from(web, turn, standing)
        many = beats // turn
        if rounds is not None:
            many = min(many, rounds)
        standing = plus(standing, more[0], many)
        beats -= turn * many
    return run_on(web, standing, beats)[-1]
