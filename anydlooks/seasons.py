"""TIMES FORMS: prices that go on evenly, place by place of a period."""

from anydlooks.rounds import row_by_paper


def _even_from(rounds, paper):
    """From which number on each place of the paper's period has prices that rise evenly.

    They do when what rises least is the least: at each place, of what rises least the least.
    """
    rows, slopes = paper
    start, result = len(rows) - len(slopes), len(rows) - len(slopes)
    for phase, slope in enumerate(slopes):
        sums = [(more, own + price) for own, price, more in zip(rounds.ahead, rows[start + phase], slope)
                if own is not None and price is not None]
        if sums:
            rise, least = min(sums)
            waits = [(least - own + more - rise - 1) // (more - rise) for more, own in sums if more > rise]
            result = max(result, start + phase + max([0, *waits]) * len(slopes))
    return result


def _are_even(three):
    """Whether three prices rise evenly."""
    if None in three:
        return three == [None, None, None]
    return three[2] - three[1] == three[1] - three[0]


def form_of_prices(rounds, paper):
    """The right TIMES FORM with the shortest slopes, then the shortest prices."""
    long, start = len(paper[1]), _even_from(rounds, paper)
    prices = [rounds.price(row_by_paper(paper, number)) for number in range(start + 4 * long)]
    numbers = range(start, start + 2 * long)
    period = 1
    while not all([_are_even(prices[number:number + 2 * period + 1:period]) for number in numbers]):
        period += 1
    while start and _are_even(prices[start - 1:start + 2 * period:period]):
        start -= 1
    many = start + period
    slopes = [_rise(prices[number - period], prices[number]) for number in range(many, many + period)]
    return tuple(prices[:many]), tuple(slopes)


def _rise(low, high):
    return 0 if low is None else high - low


def price_by_form(form, number):
    """The price at a number by a TIMES FORM."""
    prices, slopes = form
    if number < len(prices):
        return prices[number]
    times, rest = divmod(number - len(prices), len(slopes))
    start = prices[len(prices) - len(slopes) + rest]
    return None if start is None else start + slopes[rest] * (times + 1)


def is_right_form(form, thing):
    """Whether thing is right, if form is the right TIMES FORM with the shortest slopes, then prices."""
    prices, slopes = thing
    many, period = len(prices), len(slopes)
    if period % len(form[1]) or many - period < len(form[0]) - len(form[1]):
        return False
    if any([own != price_by_form(form, number) for number, own in enumerate(prices)]):
        return False
    rises = [_rise(price_by_form(form, many + own - period), price_by_form(form, many + own)) for own in range(period)]
    return list(slopes) == rises


def told_numbers(form, most):
    """For which numbers the price is most at most: a triple (start, period, numbers)."""
    prices, slopes = form
    long, start = len(slopes), len(prices) - len(slopes)
    waits = [(most - price) // slope + 1 for price, slope in zip(prices[start:], slopes)
             if slope and price is not None and price <= most]
    start += max([0, *waits]) * long
    told = [_is_told(form, number, most) for number in range(start + 2 * long)]
    period = 1
    while told[start:start + long] != told[start + period:start + period + long]:
        period += 1
    while start and told[start - 1] == told[start - 1 + period]:
        start -= 1
    return start, period, tuple([number for number in range(start + period) if told[number]])


def _is_told(form, number, most):
    price = price_by_form(form, number)
    return price is not None and price <= most
