"""Words of meeting: names, and meetings of three words."""

from meetrow.errors import NoText
from meetrow.masks import majority
from meetrow.ways import meet

MOST_MEETS = 40
MOST_WITHIN = 20
MOST_NAMES = 8
MOST_LETTERS = 8


def is_word(thing):
    """Whether anything is a word of meeting."""
    meets = 0
    names = {}
    parts = [(thing, 1)]
    while parts:
        part, within = parts.pop()
        if is_name(part):
            names[part] = True
        elif _is_meet(part) and within <= MOST_WITHIN and meets < MOST_MEETS:
            meets += 1
            parts.extend([(inner, within + 1) for inner in part[1:]])
        else:
            return False
    return len(names) <= MOST_NAMES


def is_name(thing):
    """Whether anything is a text of one to eight small letters."""
    if not isinstance(thing, str) or not 1 <= len(thing) <= MOST_LETTERS:
        return False
    return all([_is_letter(sign) for sign in thing])


def _is_letter(sign):
    return "a" <= sign <= "z"


def _is_meet(thing):
    return isinstance(thing, tuple) and len(thing) == 4 and thing[0] == "meet"


def show_word(word):
    """The text of a word."""
    if isinstance(word, str):
        return word
    inner = ", ".join([show_word(part) for part in word[1:]])
    return f"meet({inner})"


def read_word(text):
    """The word whose text it is; refused with NoText where it is none."""
    word, end = _word_at(text, 0, 0)
    if end != len(text) or not is_word(word):
        raise NoText()
    return word


def _word_at(text, start, within):
    """The word that begins at the start, within so many meets, and where it ends."""
    end = start
    while end < len(text) and _is_letter(text[end]):
        end += 1
    name = text[start:end]
    if name != "meet" or text[end : end + 1] != "(":
        return name, end
    # Told here, and not by is_word alone, so that no text leads deeper than a word may go.
    if within == MOST_WITHIN:
        raise NoText()
    word = ("meet",)
    end += 1
    for behind in (", ", ", ", ")"):
        part, end = _word_at(text, end, within + 1)
        if text[end : end + len(behind)] != behind:
            raise NoText()
        word += (part,)
        end += len(behind)
    return word, end


def told_by(word, spots):
    """The spot that a word tells by the spots for its names."""
    if isinstance(word, str):
        return spots[word]
    one, two, three = [told_by(part, spots) for part in word[1:]]
    return meet(one, two, three)


def parting(word, other):
    """None where two words are alike, else names by (1,) for which, and (-1,) for the others, they tell unlike ones."""
    names = sorted({name for name in _names(word) + _names(other)})
    # Each number of so many bits is one choice of names, and each bit of a mask is one such number.
    masks = {name: _choices_with(at, len(names)) for at, name in enumerate(names)}
    unlike = _mask_told(word, masks) ^ _mask_told(other, masks)
    if not unlike:
        return None
    choice = unlike.bit_length() - 1
    return [name for at, name in enumerate(names) if choice >> at & 1]


def _choices_with(at, many):
    """The mask of the choices, of so many names, that take the one at this place."""
    return sum([1 << choice for choice in range(1 << many) if choice >> at & 1])


def _names(word):
    """The names of a word, at each place where they stand."""
    if isinstance(word, str):
        return [word]
    return [name for part in word[1:] for name in _names(part)]


def _mask_told(word, masks):
    """The mask of the choices by which a word tells (1,), by those by which its names do."""
    if isinstance(word, str):
        return masks[word]
    one, two, three = [_mask_told(part, masks) for part in word[1:]]
    return majority(one, two, three)
