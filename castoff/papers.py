"""Prices for the asks of a row, and the floor that they set: no lawful book pays less."""

from castoff.books import check_asks, earlier_asks
from castoff.errors import BadPaper
from castoff.ratios import divisor_of, ratio_of


def check_prices(asks, prices):
    if len(prices) != len(asks):
        raise BadPaper("there is not one price for each ask")
    for top, bottom in prices:
        if top < 0:
            raise BadPaper("a price is below 0")


def common_bottom(ratios):
    told = 1
    for top, bottom in ratios:
        told = told // divisor_of(told, bottom) * bottom
    return told


def floor_of(stock, asks, places, prices):
    check_asks(stock, asks, places)
    check_prices(asks, prices)
    # All is counted over one bottom, so that lowest terms are sought only once, at the end.
    common = common_bottom(prices)
    tops = [top * (common // bottom) for top, bottom in prices]
    told = 0
    for number, earlier in enumerate(earlier_asks(asks)):
        room = stock.room_of(asks[number])
        least = stock.cost_of(asks[number]) * common
        if earlier is not None:
            least = min(least, room * sum(tops[earlier + 1:number]))
        told += least - tops[number] * (places - room)
    return ratio_of(told, common)
