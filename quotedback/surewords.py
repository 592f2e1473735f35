"""Words that come to one text that is known by the word alone."""

from quotedback.splitting import PATTERN_STARTS


def sure_text(word):
    """Returns the text of a word that is sure, `None` of another one."""
    texts = [sure_piece_text(piece) for piece in word]
    return None if None in texts else "".join(texts)


def sure_piece_text(piece):
    match piece:
        case ("bare", text):
            return None if any([sign in PATTERN_STARTS for sign in text]) else text
        case ("held" | "mark" | "plain", text):
            return text
        case ("wide", pieces):
            return sure_text(pieces)
    return None
