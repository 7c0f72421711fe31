"""Going through the tokens of a text, from left to right."""

from causaleffects.errors import InvalidText
from causaleffects.tokens import END, NUMBER, cut


class Reader:
    """The tokens of a text, and at which of them reading is."""

    def __init__(self, text):
        if type(text) is not str:
            raise InvalidText(None, None)
        self.tokens = cut(text)
        self.at = 0

    def token(self):
        """The token at which reading is."""
        return self.tokens[self.at]

    def step(self):
        """Go on to the next token. Nobody goes on from the last one, as nothing takes an end or a bad sign."""
        self.at += 1

    def passes(self, signs):
        """Whether the sign or word stands here; if so, reading goes on behind it."""
        if self.token()[1] != signs:
            return False
        self.step()
        return True

    def take(self, signs):
        """Go on behind this sign or word, which has to stand here."""
        if not self.passes(signs):
            refuse(self.token())

    def take_number(self, least=None, greatest=None):
        """The number that has to stand here, within these limits, if they are told."""
        token = self.token()
        if token[0] != NUMBER:
            refuse(token)
        number = int(token[1])
        if (least is not None and number < least) or (greatest is not None and number > greatest):
            refuse(token)
        self.step()
        return number

    def finish(self):
        """Refuse whatever stands here but the end of the text."""
        if self.token()[0] != END:
            refuse(self.token())


def refuse(token):
    """Refuse the text at this token."""
    raise InvalidText(token[2], token[3])
