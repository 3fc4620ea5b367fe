"""Refusals of arguments that are told in the same way wherever they occur."""
from fewmarks.base.words import is_text
from fewmarks.core.kinds import is_letter_of, is_pair_of, is_row_of, is_state_of
from fewmarks.errors import InvalidNumber, InvalidOperation, InvalidText


def check_text(rewriter, text):
    """Refuses what is no text with letters of the rewriter."""
    if not is_text(text):
        raise InvalidText("not a text of at most 60 letters")
    if text.strip(rewriter.letters) != "":
        raise InvalidOperation("a letter that the rewriter does not have")


def check_letter(rewriter, letter):
    """Refuses what is no letter of the rewriter."""
    if not is_letter_of(rewriter.letters, letter):
        raise InvalidOperation("not a letter of the rewriter")


def check_state(rewriter, state):
    """Refuses what is no state of the rewriter."""
    if not is_state_of(rewriter.states, state):
        raise InvalidNumber(state)


def check_states(rewriter, states):
    """Refuses what is no ascending tuple of states of the rewriter."""
    if not is_row_of(rewriter.states, states):
        raise InvalidOperation("not an ascending tuple of states")


def check_pair(rewriter, pair):
    """Refuses what is no pair of states of the rewriter."""
    if not is_pair_of(rewriter.states, pair):
        raise InvalidOperation("not a pair of states")
