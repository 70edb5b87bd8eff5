"""Choosing: the cheapest changes of a book by which wishes hold in all houses."""

from landingwires.books import Book
from landingwires.errors import BadBook, BadOffers
from landingwires.values import is_ascending, is_int
from landingwires.wishes import check_wishes, holds

MOST_OFFERS = 4
MOST_PRICE = 9


def cheapest(book, offers, wishes):
    """The first choice by which all wishes hold, or that there is none; and why not those ahead of it."""
    check_offers(book, offers)
    check_wishes(wishes)
    reasons = []
    for price, _, choice in all_choices(offers):
        changed = changed_book(book, choice)
        if changed is not None:
            number = first_broken(changed, wishes)
            if number is None:
                return 'choice', price, choice, tuple(reasons)
            reasons.append((choice, number))
    return 'none', tuple(reasons)


def check_offers(book, value):
    """Refuse any value that is no ascending tuple of one to four offers."""
    if not isinstance(value, tuple) or not 1 <= len(value) <= MOST_OFFERS:
        raise BadOffers(value)
    if not all([is_offer(book, offer) for offer in value]) or not is_ascending(value):
        raise BadOffers(value)


def is_offer(book, value):
    """Whether any value is the number of a line of the book, a text for it and a price."""
    if not isinstance(value, tuple) or len(value) != 3 or not isinstance(value[1], str):
        return False
    number, _, price = value
    return is_int(number) and 1 <= number <= len(book) and is_int(price) and 1 <= price <= MOST_PRICE


def all_choices(offers):
    """All choices in their sequence, each as (price, how many offers, choice)."""
    choices = [()]
    for offer in offers:
        choices = [*choices, *[(*choice, offer) for choice in choices if not has_line(choice, offer[0])]]
    return sorted([(price_of(choice), len(choice), choice) for choice in choices])


def has_line(choice, number):
    """Whether an offer of a choice is for the line with this number."""
    return number in [offer[0] for offer in choice]


def price_of(choice):
    """The sum of the prices of the offers of a choice."""
    return sum([offer[2] for offer in choice])


def changed_book(book, choice):
    """The book with the texts of a choice in the places of its lines, or None if no book comes."""
    texts = {number: text for number, text, price in choice}
    lines = [texts.get(number, book[number]) for number in range(1, len(book) + 1)]
    try:
        return Book('\n'.join([line for line in lines if line != '']))
    except BadBook:
        return None


def first_broken(book, wishes):
    """The number of the first wish that does not hold by the book, or None; those behind it are not asked."""
    for number, wish in enumerate(wishes):
        if not holds(book, wish):
            return number
    return None
