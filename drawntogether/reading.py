"""How texts are read as formulas, as sequents and as links.

Each reader gives back None for a text that is none of its kind.
"""

from drawntogether.formulas import LEFT, PAR, RIGHT, TENSOR, TILDE, dual

BLANK = 32
COMMA = 44
DASH = 45
SEMICOLON = 59
ARROW = (45, 111)
SIGN_BYTES = (126, 42, 124, 40, 41)

MOST_NAME_BYTES = 12
MOST_FORMULA_BYTES = 2000
MOST_UNCLOSED = 100
MOST_FORMULAS = 20


def split_at(text, byte):
    pieces = [[]]
    for other in text:
        if other == byte:
            pieces.append([])
        else:
            pieces[-1].append(other)
    return pieces


def is_digit(byte):
    return 48 <= byte <= 57


def is_small_letter(byte):
    return 97 <= byte <= 122


def stretch_at(text, place):
    end = place
    while end < len(text) and (is_small_letter(text[end]) or is_digit(text[end])):
        end += 1
    return tuple(text[place:end])


def is_name(stretch):
    return 1 <= len(stretch) <= MOST_NAME_BYTES and is_small_letter(stretch[0])


def token_at(text, place):
    if text[place] in SIGN_BYTES:
        return (text[place],)
    if tuple(text[place:place + 2]) == ARROW:
        return ARROW
    stretch = stretch_at(text, place)
    return stretch if is_name(stretch) else None


def read_tokens(text):
    tokens = []
    place = 0
    while place < len(text):
        if text[place] == BLANK:
            place += 1
        else:
            token = token_at(text, place)
            if token is None:
                return None
            tokens.append(token)
            place += len(token)
    return tokens


class FormulaReader:
    # The signs that are still to be closed are kept in a list, not in calls
    # within calls, so that their number can be held against the bound.

    def __init__(self):
        self.unclosed = []
        self.finished = []
        self.wants_part = True

    def last_unclosed(self):
        return self.unclosed[-1] if self.unclosed else None

    # Whether the token may stand here, and not too much is unclosed with it.
    def take(self, token):
        if self.wants_part:
            fits = self.take_in_part(token)
        else:
            fits = self.take_behind_part(token)
        return fits and len(self.unclosed) <= MOST_UNCLOSED

    def take_in_part(self, token):
        if token == TILDE or token == LEFT:
            self.unclosed.append(token)
            return True
        if not is_name(token):
            return False
        self.finished.append([token])
        self.end_part()
        return True

    def take_behind_part(self, token):
        if token == TENSOR or token == PAR:
            return self.take_chain_sign(token)
        if token == ARROW:
            self.end_chain()
            self.unclosed.append(ARROW)
            self.wants_part = True
            return True
        return token == RIGHT and self.take_right()

    def take_chain_sign(self, sign):
        before = self.last_unclosed()
        if before in (TENSOR, PAR) and before != sign:
            return False
        self.unclosed.append(sign)
        self.wants_part = True
        return True

    def take_right(self):
        self.end_formula()
        if self.last_unclosed() != LEFT:
            return False
        self.unclosed.pop()
        self.end_part()
        return True

    def end_part(self):
        while self.last_unclosed() == TILDE:
            self.unclosed.pop()
            self.finished.append(dual(self.finished.pop()))
        self.wants_part = False

    def end_chain(self):
        while self.last_unclosed() in (TENSOR, PAR):
            self.join_last_two()

    def end_formula(self):
        while self.last_unclosed() in (TENSOR, PAR, ARROW):
            self.join_last_two()

    def join_last_two(self):
        sign = self.unclosed.pop()
        second = self.finished.pop()
        first = self.finished.pop()
        if sign == ARROW:
            self.finished.append([PAR] + dual(first) + second)
        else:
            self.finished.append([sign] + first + second)

    # The one formula of all tokens taken, None if they don't end one.
    def outcome(self):
        if self.wants_part:
            return None
        self.end_formula()
        if self.unclosed:
            return None
        return self.finished[0]


def read_formula(text):
    if len(text) > MOST_FORMULA_BYTES:
        return None
    tokens = read_tokens(text)
    if tokens is None:
        return None
    reader = FormulaReader()
    for token in tokens:
        if not reader.take(token):
            return None
    return reader.outcome()


def read_sequent(text):
    if all([byte == BLANK for byte in text]):
        return []
    pieces = split_at(text, COMMA)
    if len(pieces) > MOST_FORMULAS:
        return None
    formulas = [read_formula(piece) for piece in pieces]
    return None if None in formulas else formulas


# The number is built up digit by digit: int() has a bound on how many it takes.
def read_number(digits):
    if not digits or not all([is_digit(byte) for byte in digits]):
        return None
    if len(digits) > 1 and digits[0] == 48:
        return None
    number = 0
    for byte in digits:
        number = number * 10 + byte - 48
    return number


def read_link(text):
    ends = [read_number(piece) for piece in split_at(text, DASH)]
    if len(ends) != 2 or None in ends or ends[0] >= ends[1]:
        return None
    return (ends[0], ends[1])


def without_outer_blanks(text):
    start = 0
    end = len(text)
    while start < end and text[start] == BLANK:
        start += 1
    while start < end and text[end - 1] == BLANK:
        end -= 1
    return text[start:end]


def read_links(text):
    inner = without_outer_blanks(text)
    links = []
    if not inner:
        return links
    for piece in split_at(inner, BLANK):
        link = read_link(piece)
        if link is None or (links and links[-1][0] >= link[0]):
            return None
        links.append(link)
    return links


# The conclusions, the cuts and the links, whether or not they fit together.
def read_pieces(text):
    pieces = split_at(text, SEMICOLON)
    if len(pieces) != 3:
        return None
    found = [read_sequent(pieces[0]), read_sequent(pieces[1]), read_links(pieces[2])]
    return None if None in found else found
