"""Texts: their lines and words, and which words are numbers and names."""

LINE_END = 10
MOST_BYTES = 4000
MOST_DIGITS = 7
MOST_LETTERS = 12
# The signs of the bytes 32 to 126. Those that no right word has are all read as ?, which no right word has either.
SIGNS = " ??#????()?+,-??0123456789??<=???ABCDEFGHIJKLMNOPQRSTUVWXYZ??????abcdefghijklmnopqrstuvwxyz????"


def is_plain(byte):
    return 32 <= byte <= 126


def sign_of(byte):
    return SIGNS[byte - 32] if is_plain(byte) else "?"


def signs_of(row):
    """The row of bytes as a text of signs."""
    return "".join([sign_of(byte) for byte in row])


def bytes_of(lines):
    """The bytes of a text with these lines, each with its end."""
    row = []
    for line in lines:
        row.extend([ord(sign) for sign in line])
        row.append(LINE_END)
    return row


def lines_of(row):
    """The lines of a text, each a list of bytes."""
    lines = []
    line = []
    for byte in row:
        if byte == LINE_END:
            lines.append(line)
            line = []
        else:
            line.append(byte)
    if line:
        lines.append(line)
    return lines


def words_of(line):
    """The words of a line that stands for something, else none."""
    words = [word for word in signs_of(line).split(" ") if word != ""]
    if words and words[0].startswith("#"):
        return []
    return words


def wrong_line(row, taker):
    """Hand each line's words of a text to the taker; at which line the text is wrong, 0 if it's right."""
    lines = lines_of(row)
    for number, line in enumerate(lines, start=1):
        if not all([is_plain(byte) for byte in line]):
            return number
        words = words_of(line)
        if words and not taker.take(words):
            return number
    return 0 if taker.is_whole() else len(lines) + 1


def read_number(word):
    """The number that a word is, -1 if it's none."""
    if len(word) > MOST_DIGITS or not word.isdigit():
        return -1
    if word.startswith("0") and word != "0":
        return -1
    return int(word)


def is_name(word):
    return len(word) <= MOST_LETTERS and word.replace("-", "0").isalnum()
