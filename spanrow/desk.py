"""A desk, on which a web with lengths is changed deed by deed."""

from spanrow.asking import answer_to
from spanrow.errors import NothingBack
from spanrow.making import left_without
from spanrow.tables import row_without
from spanrow.texts import read_web, web_text
from spanrow.webs import Web, refuse_no_tie


# What is on the desk: pairs of a web and its lengths, the first as the desk was
# made, and one more for each deed that stands. None of them is ever changed, so
# to undo a deed is to drop the last one, and a refused deed adds none.
class Desk:

    def __init__(self, text):
        self.stages = [read_web(text)]

    def web_now(self):
        return self.stages[len(self.stages) - 1][0]

    def lengths_now(self):
        return self.stages[len(self.stages) - 1][1]

    def deeds(self):
        return len(self.stages) - 1

    def done(self, web, lengths):
        self.stages.append((web, lengths))
        return self.deeds()

    def grow(self):
        web = self.web_now()
        return self.done(Web(web.places + 1, web.ties), self.lengths_now())

    def tie(self, one, other, length):
        web = self.web_now()
        return self.done(Web(web.places, web.ties + [(one, other)]), self.lengths_now() + [length])

    def strike(self, tie):
        return self.done(left_without(self.web_now(), tie), row_without(self.lengths_now(), tie))

    def stretch(self, tie, length):
        web = self.web_now()
        refuse_no_tie(web, tie)
        lengths = list(self.lengths_now())
        lengths[tie] = length
        return self.done(web, lengths)

    def back(self):
        if self.deeds() == 0:
            raise NothingBack("no deed stands")
        self.stages.pop()
        return self.deeds()

    def text(self):
        return web_text(self.web_now(), self.lengths_now())

    def asked(self, line):
        return answer_to(self.web_now(), self.lengths_now(), line)
