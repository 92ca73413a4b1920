"""What all tests of refusals share."""

from castoff import errors

PLAIN_WORDS = {
    "CastError": "refused",
    "NoName": "no name",
    "NoNumber": "no number",
    "Twice": "twice",
    "TooMany": "too many",
    "There": "there",
    "NotThere": "not there",
    "Full": "full",
    "BadPaper": "bad paper",
    "NoRule": "no rule",
    "Unlike": "unlike",
    "NoLine": "no line",
}
NAMED_WORDS = {"Unknown": "unknown", "TooWide": "too wide"}
PLACED_WORDS = {"BadBook": "bad book"}
WORDS = {**PLAIN_WORDS, **NAMED_WORDS, **PLACED_WORDS}


def class_called(title):
    return getattr(errors, title)


def assert_is_refusal(case, error, title):
    """The error is of the class, of CastError and ValueError, and of no other class."""
    case.assertIs(type(error), class_called(title))
    case.assertIsInstance(error, errors.CastError)
    case.assertIsInstance(error, ValueError)
    for other in WORDS:
        if other not in (title, "CastError"):
            case.assertNotIsInstance(error, class_called(other))
    case.assertEqual(error.word(), WORDS[title])


def assert_refused(case, title, call, *given):
    """The call is refused by that class alone, twice alike; the refusal is given back."""
    for taker in (class_called(title), errors.CastError, ValueError):
        try:
            answer = call(*given)
        except taker as error:
            assert_is_refusal(case, error, title)
            refusal = error
        else:
            case.fail(f"{given!r:.200} was answered by {answer!r:.200}, not refused with {title}")
    return refusal
