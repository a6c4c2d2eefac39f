"""What worths and chances become behind the news of a lot, and what questions do."""

from softchances.behind import end_behind, may_come
from softchances.books import check_book, scaled_rows
from softchances.checks import check_lot, check_payoff, check_question
from softchances.corners import chance_of, corner_rays
from softchances.ends import check_listed, opposite_payoff
from softchances.errors import Never
from softchances.ratios import ascending_by_size, is_below, least_of, opposite
from softchances.worths import greatest_worth, least_worth


def least_behind(book, lot, payoff):
    """The least worth of the payoff behind the news of the lot."""
    return checked_behind(book, lot, payoff)[0]


def greatest_behind(book, lot, payoff):
    """The greatest worth of the payoff behind the news of the lot."""
    check_book(book)
    check_lot(lot, book.outcomes)
    check_payoff(payoff, book.outcomes)
    return opposite(end_behind(book, lot, lot, opposite_payoff(payoff))[0])


def chances_behind(book, lot):
    """The ascending tuple of what corners become behind the news of the lot, each once."""
    check_book(book)
    check_lot(lot, book.outcomes)
    if not may_come(book, lot):
        raise Never()
    check_listed(book)
    rays = [ray_on(ray, lot) for ray in corner_rays(scaled_rows(book), book.outcomes)]
    found = {chance_of(ray): True for ray in rays if sum(ray) > 0}
    return ascending_by_size(list(found))


def widens(book, question, payoff):
    """Whether the question widens the payoff."""
    check_asked(book, question, payoff)
    least, greatest = least_worth(book, payoff), greatest_worth(book, payoff)
    return all([is_below(least_behind(book, lot, payoff), least)
                and is_below(greatest, greatest_behind(book, lot, payoff))
                for lot in question if may_come(book, lot)])


def least_by_question(book, question, payoff):
    """The least number of the least worths behind the news of all lots that may come."""
    check_asked(book, question, payoff)
    return least_of([least_behind(book, lot, payoff) for lot in question if may_come(book, lot)])


def checked_behind(book, lot, payoff):
    """The end of the payoff behind the news of the lot, behind a look at what is passed."""
    check_book(book)
    check_lot(lot, book.outcomes)
    check_payoff(payoff, book.outcomes)
    return end_behind(book, lot, lot, payoff)


def check_asked(book, question, payoff):
    """What is raised for a book, a question and a payoff."""
    check_book(book)
    check_question(question, book.outcomes)
    check_payoff(payoff, book.outcomes)


def ray_on(ray, lot):
    """The ray with 0 outside of the lot."""
    return tuple([number if outcome in lot else 0 for outcome, number in enumerate(ray)])
