"""Texts of houses and of letterings, written and read."""

from letterhalls.errors import BadLine, BadText
from letterhalls.houses import MOST_HALLS, check_house, doors_out
from letterhalls.letterings import MOST_LETTER, check_lettering, ways_of


def write_house(house):
    """The text of a house."""
    check_house(house)
    rows = []
    for hall in range(house[0]):
        rows.append([str(hall), ">"] + [str(end) for end in doors_out(house, hall)])
    return text_of(rows)


def write_lettering(house, lettering):
    """The text of a house with a lettering."""
    check_house(house)
    check_lettering(house, lettering)
    ways = ways_of(house, lettering)
    rows = []
    for hall, kind in enumerate(lettering[0]):
        # The letters of a hall's doors are kept in the order of its doors.
        rows.append([str(hall), str(kind), ">"] + [f"{end}:{letter}" for letter, end in ways[hall].items()])
    return text_of(rows)


def read_house(text):
    """The house that a text tells."""
    lines = lines_of(text)
    halls = read_first(lines[0])
    doors = []
    for hall in range(halls):
        line, words = lines[hall + 1]
        check_word(line, words, 1, str(hall))
        check_word(line, words, 2, ">")
        doors.extend([(hall, end) for end in read_ends(line, words, hall, halls)])
    check_last(lines[halls + 1])
    return joined((halls, tuple(doors)))


def read_lettering(text):
    """The pair of the house and the lettering that a text tells."""
    lines = lines_of(text)
    halls = read_first(lines[0])
    doors = []
    kinds = []
    letters = []
    for hall in range(halls):
        line, words = lines[hall + 1]
        check_word(line, words, 1, str(hall))
        kinds.append(read_number(line, words, 2, 0, halls - 1))
        check_word(line, words, 3, ">")
        ways = read_ways(line, words, hall, halls)
        doors.extend([(hall, end) for end, letter in ways])
        letters.extend([letter for end, letter in ways])
    check_last(lines[halls + 1])
    return (joined((halls, tuple(doors))), (tuple(kinds), tuple(letters)))


def text_of(rows):
    """The text with the number of halls, and for each a line of these words."""
    first = ["halls", str(len(rows))]
    return "\n".join([" ".join(words) for words in [first] + rows])


def lines_of(text):
    """The list of pairs of a line's number and its words, without void lines, and one without words behind the last."""
    if not isinstance(text, str):
        raise BadText("no string")
    lines = text.split("\n")
    found = []
    for line, written in enumerate(lines, start=1):
        words = [word for word in written.split(" ") if word]
        if words:
            found.append((line, words))
    # Whatever is due in a line that lacks is thus missed where the document says.
    found.append((len(lines) + 1, []))
    return found


def read_first(first):
    """The number of halls that the first line tells."""
    line, words = first
    check_word(line, words, 1, "halls")
    halls = read_number(line, words, 2, 1, MOST_HALLS)
    if len(words) > 2:
        raise BadLine(line, 3)
    return halls


def check_last(last):
    """Raise BadLine if there is a word behind the last hall's line."""
    line, words = last
    if words:
        raise BadLine(line, 1)


def check_word(line, words, place, due):
    """Raise BadLine if the word at a place, counted from 1, lacks or is not the one that is due."""
    if words[place - 1:place] != [due]:
        raise BadLine(line, place)


def read_number(line, words, place, low, high):
    """The number at a place, counted from 1; raise BadLine if it lacks or is none within two limits."""
    number = number_of(words[place - 1], low, high) if len(words) >= place else None
    if number is None:
        raise BadLine(line, place)
    return number


def number_of(word, low, high):
    """The number within two limits that a word is, None if it is none."""
    # Beside numbers as they are written neither a needless zero nor a sign that is no digit can stand.
    written = [str(number) for number in range(low, high + 1)]
    return low + written.index(word) if word in written else None


def read_ends(line, words, hall, halls):
    """The list of the halls to which the doors in a hall's line lead."""
    ends = []
    for place, word in enumerate(words[2:], start=3):
        end = number_of(word, 0, halls - 1)
        if not may_lead(hall, ends, end):
            raise BadLine(line, place)
        ends.append(end)
    return ends


def read_ways(line, words, hall, halls):
    """The list of pairs of the hall to which a door in a hall's line leads, and its letter."""
    ends = []
    letters = []
    for place, word in enumerate(words[3:], start=4):
        named, _, written = word.partition(":")
        end = number_of(named, 0, halls - 1)
        letter = number_of(written, 0, MOST_LETTER)
        if not may_lead(hall, ends, end) or letter is None or letter in letters:
            raise BadLine(line, place)
        ends.append(end)
        letters.append(letter)
    return list(zip(ends, letters))


def may_lead(hall, ends, end):
    """Whether a door of a hall, behind those to other halls, may lead to this one."""
    return end is not None and end != hall and end > max(ends, default=-1)


def joined(house):
    """A house; raise BadHouse if some hall can't be come to from another."""
    check_house(house)
    return house
