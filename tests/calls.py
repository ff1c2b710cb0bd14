"""A right call of each function, with its parameters by name in their sequence, and what goes wrong with them."""

from ruleshadows import (
    bars, bases, books, bothsides, classes, curved, cuts, deedtexts, desk, families, follows, formfamilies, forms,
    growths, journals, keeping, keepsplits, ladders, lattices, leasts, live, longs, losses, lowered, lowerings, maps,
    minors, mirrors, moved, orders, placerooms, places, products, raised, relations, rests, rising, rooms, series,
    settled, shadows, shares, sides, sums, sweeps, telling, texts, trials, twists, twos, undoing, upto, weblots, webs,
    wholesums, wordrooms, words)
from samples import chance_book

BOOK = books.exchange_book(3, 2)
BENT = chance_book(5, 2, 2, 3)
ROWS = [[1, 2, 0], [0, 1, 4]]
OTHER = [[1, 0, 6]]
TABLE = [[1, 1], [0, 2]]


def made(function, **given):
    return (function, given)


FIRST = [
    made(words.spot_of, letters=3, word=(2, 0, 1)),
    made(words.word_at, letters=3, length=2, spot=5),
    made(words.words, letters=2, length=2),
    made(words.beside, prime=5, one=[1, 6], other=[2, -1]),
    made(words.row_led, prime=5, letters=2, length=2, row=[1, 7, 0, 2], table=TABLE),
    made(rooms.tidy, prime=5, size=3, one=ROWS),
    made(rooms.room_sum, prime=5, size=3, one=ROWS, other=OTHER),
    made(rooms.room_common, prime=5, size=3, one=ROWS, other=OTHER),
    made(rooms.room_dark, prime=5, size=3, one=ROWS),
    made(rooms.is_within, prime=5, size=3, one=ROWS, other=OTHER),
    made(books.Rules, prime=5, letters=2, rows=[[0, 6, -1, 0], [1, 1, 1, 1]]),
    made(books.free_book, prime=5, letters=2),
    made(books.shut_book, prime=5, letters=2),
    made(books.exchange_book, prime=5, letters=2),
    made(books.minus_book, prime=5, letters=2),
    made(books.weighed_book, prime=5, weights=[[0, 3], [2, 6]]),
    made(books.book_led, book=BENT, table=TABLE),
    made(books.read_back, book=BENT),
    made(rests.nothing_room, book=BOOK, length=3),
    made(rests.rest_words, book=BOOK, length=3),
    made(rests.count, book=BOOK, length=3),
    made(rests.rest, book=BOOK, length=2, row=[1, 2, 4, 0]),
    made(rests.rest_product, book=BOOK, first=1, one=[1, 5], second=2, other=[1, 1, 2, -1]),
    made(rests.ending, book=BENT, most=4),
    made(rests.idle, book=BENT, length=1, side=0),
    made(shadows.shadow, book=BENT),
    made(shadows.is_under, one=BOOK, other=BOOK),
    made(shadows.joined_rules, one=BOOK, other=BOOK),
    made(shadows.common_rules, one=BOOK, other=BOOK),
    made(places.at_place, book=BENT, length=3, place=0),
    made(places.at_places, book=BENT, length=3, places=[0, 1]),
    made(places.common_at, book=BENT, length=3, places=[0, 1]),
    made(places.common_room, book=BENT, length=3),
    made(places.pairing, book=BENT, length=3),
    made(ladders.rung_size, book=BENT, length=3, step=2),
    made(ladders.letters_off, book=BENT, step=2, side=0),
    made(ladders.step_rows, book=BENT, length=3, step=2, side=0),
    made(ladders.lost, book=BENT, length=4, side=0),
    made(ladders.first_lost, book=BENT, most=5),
    made(ladders.fits, book=BENT, most=5),
    made(undoing.back_counts, book=BENT, most=4),
    made(undoing.counts_undo, book=BENT, most=4),
]

ROOMS = [[[1, 0], [0, 0]], [[0, 1]], [[1, 6]]]
MINUS = books.minus_book(5, 2)

SECOND = [
    made(leasts.least_ladder, book=BENT, most=4, side=0),
    made(relations.relation_numbers, book=BENT, most=4, side=0),
    made(relations.first_gap, book=BENT, most=5),
    made(relations.relations_straight, book=BENT, most=5),
    made(cuts.cut_words, book=BENT, length=3, parts=2),
    made(cuts.cut_rows, book=BENT, length=3, parts=2),
    made(cuts.cut_numbers, book=BENT, length=3),
    made(lattices.all_sum, prime=5, size=2, rooms=ROOMS),
    made(lattices.all_common, prime=5, size=2, rooms=ROOMS[:1]),
    made(lattices.closed_rooms, prime=5, size=2, rooms=ROOMS, most=10),
    made(bases.is_fitting, prime=5, size=2, rooms=ROOMS[:2], thing=[[0, 3], [1, 0]]),
    made(bases.fitting_basis, prime=5, size=2, rooms=ROOMS[1:]),
    made(bases.lot_numbers, prime=5, size=2, rooms=ROOMS),
    made(bars.gap, prime=5, size=2, rooms=ROOMS, at=1),
    made(bars.bar, prime=5, size=2, rooms=ROOMS),
    made(bars.is_bar, prime=5, size=2, rooms=ROOMS, thing=((0, 1, 2), 1)),
    made(bars.counted_size, prime=5, size=2, rooms=ROOMS),
    made(placerooms.place_rooms, book=BENT, length=3),
    made(placerooms.fitting_at, book=BENT, length=3),
    made(placerooms.gaps, book=BENT, length=4),
    made(placerooms.first_barred, book=BENT, most=5),
    made(orders.is_order, letters=2, order=[1, 0]),
    made(orders.head_of, book=BENT, order=[1, 0], length=2, row=[1, 5, 6, 0]),
    made(orders.heads, book=BENT, order=[1, 0]),
    made(orders.head_rules, book=BENT, order=[1, 0]),
    made(orders.plain_words, book=BENT, order=[1, 0], length=3),
    made(orders.head_words, book=BENT, order=[1, 0], length=3),
    made(orders.word_book, prime=5, letters=2, some=[(0, 1), (1, 1)]),
    made(settled.is_tidy, book=BENT, order=[1, 0]),
    made(settled.overlaps, book=MINUS, order=[1, 0]),
    made(settled.overlap_row, book=MINUS, order=[1, 0], word=(1, 1, 1)),
    made(settled.is_settled, book=MINUS, order=[1, 0], word=(1, 1, 0)),
    made(settled.unsettled, book=BENT, order=[1, 0], length=3),
    made(sweeps.replaced, book=MINUS, order=[1, 0], word=(1, 1, 0), place=1, row=[1, 2, 3, 4, 5, 6, 7, 8]),
    made(sweeps.swept, book=MINUS, order=[1, 0], length=2, row=[1, 2, 3, 9]),
]

LINES = [[0, 1, 3], [1, 2, 6]]
TURN = [[0, 1], [1, 0]]

THIRD = [
    made(wordrooms.is_word_basis, book=MINUS, order=[1, 0], length=1, some=[[1, 0], [3, 6]]),
    made(wordrooms.word_basis, book=MINUS, order=[1, 0], length=3),
    made(follows.follows, book=BENT, order=[1, 0]),
    made(follows.count_long, book=BOOK, order=[1, 0], length=7),
    made(follows.count_far, book=BOOK, order=[1, 0], length=10 ** 20, modulo=97),
    made(series.unrolled, over=[2, 1], below=[1, -1, -1], most=5),
    made(series.fraction, book=BOOK, order=[1, 0]),
    made(growths.growth, book=BOOK, order=[1, 0]),
    made(trials.tidy_orders, book=BOOK),
    made(trials.first_tidy, book=BOOK),
    made(webs.web_book, prime=5, letters=3, lines=LINES, nothings=[2, 0]),
    made(webs.shut_web, prime=5, letters=3, lines=LINES, nothings=[2, 0]),
    made(webs.web_lots, letters=3, lines=LINES),
    made(weblots.web_fraction, letters=3, lines=LINES, nothings=[2, 0]),
    made(weblots.shut_fraction, letters=3, lines=LINES, nothings=[2, 0]),
    made(weblots.is_straight, letters=3, lines=LINES, order=[1, 0, 2]),
    made(weblots.first_straight, letters=3, lines=LINES),
    made(sides.free_sides, one=BENT, other=MINUS),
    made(sides.shut_sides, one=BENT, other=MINUS),
    made(sides.ahead_sides, one=BENT, other=MINUS),
    made(sides.behind_sides, one=BENT, other=MINUS),
    made(sides.weighed_sides, one=BENT, other=MINUS, weight=7),
    made(sides.sides_told, book=books.exchange_book(5, 3), many=1),
    made(products.woven, one=BENT, other=MINUS, row=[1, 2, 9, 0], second=[0, 1, 0, -1]),
    made(products.white_product, one=BENT, other=MINUS),
    made(products.black_product, one=BENT, other=MINUS),
    made(products.spaced_book, book=BOOK, step=2),
    made(twists.keeps, book=MINUS, thing=TURN),
    made(twists.turned_book, book=MINUS, table=TURN),
    made(twists.passed_book, book=MINUS, table=TURN),
]

LOW = lowered.Lowered(books.exchange_book(5, 2), [[1, 7]], [3])
LONG = [1, 2, 0, 7, -1, 4, 5]
SENT = [[1, 2, 0], [3, 6, 5]]

FOURTH = [
    made(shares.kept_letters, book=books.minus_book(5, 3), places=(0, 2)),
    made(shares.left_out, book=books.minus_book(5, 3), places=(0, 2)),
    made(shares.shared_sides, one=MINUS, other=MINUS, many=1),
    made(maps.is_map, one=MINUS, other=MINUS, thing=TURN),
    made(maps.row_sent, one=LOW.book, other=books.exchange_book(5, 3), table=SENT, length=2, row=[1, 2, 9, 0]),
    made(maps.lost_by, one=LOW.book, other=books.exchange_book(5, 3), table=SENT, length=2),
    made(maps.reached_by, one=LOW.book, other=books.exchange_book(5, 3), table=SENT, length=2),
    made(maps.sent_behind, prime=5, first=[[1, 7], [0, 2]], second=SENT),
    made(maps.sent_back, prime=5, table=SENT),
    made(maps.letter_maps, one=MINUS, other=MINUS),
    made(maps.keepers, book=MINUS),
    made(maps.bent, one=MINUS, other=BENT, table=[[1, 7], [0, 2], [3, 3], [4, 0]]),
    made(lowered.Lowered, book=MINUS, sums=[[1, 7], [0, 2], [3, 3]], numbers=[1, 0, -1]),
    made(lowered.unlowered, book=MINUS),
    made(longs.long_size, letters=2, length=3),
    made(longs.long_place, letters=2, length=3, word=(1, 0)),
    made(longs.long_word, letters=2, length=3, place=5),
    made(longs.long_cut, prime=5, letters=2, length=2, long=LONG),
    made(longs.long_joined, prime=5, letters=2, rows=[[6], [1, 9]]),
    made(longs.long_rules, lowered=LOW),
    made(longs.lowered_from, prime=5, letters=2, longs=[LONG, [0, 1, 0, 0, 0, 0, 8]]),
    made(upto.long_nothing, lowered=LOW, length=3),
    made(upto.kept_words, lowered=LOW, length=3),
    made(upto.count_up_to, lowered=LOW, length=3),
    made(upto.long_rest, lowered=LOW, length=2, long=LONG),
    made(upto.long_product, lowered=LOW, first=1, one=[1, 2, 8], second=2, other=LONG),
    made(upto.tops, lowered=LOW, length=3, top=2),
    made(losses.loss, lowered=LOW, length=3),
    made(losses.first_loss, lowered=LOW, most=4),
    made(losses.defects, lowered=lowered.unlowered(MINUS)),
    made(curved.shadow_curve, lowered=LOW),
    made(curved.shadow_slope, lowered=LOW, letter=1),
    made(curved.shadow_step, lowered=LOW, length=1, row=[1, 9]),
    made(curved.has_step, lowered=LOW),
    made(curved.lowered_by, book=MINUS, slopes=[[1, 2, 3, 9], [0, 0, 1, 0]], curve=[1, 1, 7, 0]),
    made(lowerings.sums_room, book=MINUS),
    made(lowerings.numbers_for, book=LOW.book, sums=[[1, 7]]),
    made(lowerings.lowerings, book=LOW.book),
    made(moved.lowered_moved, lowered=LOW, numbers=[1, 9]),
    made(moved.lowered_led, lowered=LOW, table=TABLE),
    made(moved.lowered_read_back, lowered=LOW),
    made(moved.least_lowered, lowered=LOW),
]

SHARP = books.shut_book(5, 2)
DARK = books.minus_book(5, 2)
CELLS = [[[1, 7], [0, 2]], [[3, 3], [-1, 0]]]

FIFTH = [
    made(families.bracket_lowered, prime=5, letters=3, rows=[[1, 7, 0], [0, -1, 2], [3, 3, 3]]),
    made(families.form_lowered, prime=5, form=[[1, 7], [0, -1]]),
    made(families.twist_lowered, prime=5, form=[[1, 7], [0, -1]]),
    made(raised.raised, lowered=LOW),
    made(forms.top_length, book=DARK, most=4),
    made(forms.pair_square, book=DARK, first=1, second=1),
    made(forms.is_paired, book=DARK, most=4),
    made(forms.turner, book=DARK, most=4),
    made(formfamilies.square_book, prime=5, square=[[1, 7], [0, -1]]),
    made(formfamilies.signed_sum, prime=5, letters=3),
    made(formfamilies.ring_sum, prime=5, one=7, other=-1, third=2),
    made(rising.rising_map, book=BENT, length=2, step=1),
    made(rising.rising_lost, book=BENT, length=2, step=1),
    made(telling.told_counts, book=LOW.book, most=4, length=6),
    made(telling.counts_back, book=LOW.book, most=4, many=6),
    made(sums.rules_of_sum, prime=5, letters=2, length=2, row=[0, 7, -1, 2]),
    made(sums.rules_from_right, prime=5, letters=2, length=2, row=[0, 7, -1, 2]),
    made(sums.is_full, prime=5, letters=2, length=2, row=[0, 7, -1, 2]),
    made(sums.turned_round, prime=5, letters=2, length=2, row=[0, 7, -1, 2], table=TABLE),
    made(sums.round_table, prime=5, letters=2, length=2, row=[0, 7, -1, 2]),
    made(wholesums.whole_sum, book=LOW.book, most=4),
    made(wholesums.sums_for, book=LOW.book, length=2),
    made(keeping.cells_keep, one=BENT, other=MINUS, third=SHARP, length=1, cells=CELLS),
    made(keeping.beside_led, one=BENT, other=MINUS, third=SHARP, length=1, cells=CELLS, many=1, row=[1, 9]),
    made(keeping.keeping_book, one=BENT, other=MINUS),
    made(keeping.plain_cells, one=BENT, other=MINUS),
    made(keeping.cells_sent, one=BENT, other=MINUS, third=SHARP, length=1, cells=CELLS, many=1, row=[1, 9, 0, 2]),
    made(keepsplits.keeping_split, one=BENT, middle=MINUS, other=SHARP, many=1, row=[1, 9, 0, 2]),
    made(keepsplits.plain_number, book=BENT, many=1, row=[1, 9, 0, 2]),
]

ONE_RULE = books.Rules(5, 2, [[0, 1, 3, 0]])
START = ("rules", 5, 2, [[1, 7, 0, -1], [0, 0, 1, 3]])
LIVE = live.LiveBook(START)
LIVE.do(("put", [0, 1, 2, 9]))
LIVE.watch_sum("a", 1, [1, 7])
LIVE.mark("m")

SIXTH = [
    made(minors.rest_minors, one=BENT, other=MINUS, many=2),
    made(minors.common_minors, one=BENT, other=MINUS, many=2),
    made(minors.determinant, book=LOW.book, many=2),
    made(bothsides.both_book, book=BENT),
    made(bothsides.two_determinants, book=ONE_RULE),
    made(bothsides.passing_table, book=ONE_RULE),
    made(twos.rule_kind, book=ONE_RULE),
    made(twos.rule_table, one=ONE_RULE, other=books.book_led(ONE_RULE, TABLE)),
    made(twos.kinds_of, prime=5),
    made(classes.least_led, book=BENT),
    made(classes.led_many, book=BENT),
    made(classes.two_classes, prime=3, many=2),
    made(live.started, start=START),
    made(live.is_deed, thing=("led", TABLE)),
    made(live.LiveBook, start=START),
    made(mirrors.mirrored_start, start=START),
    made(mirrors.mirrored_deed, prime=5, deed=("join", START)),
    made(mirrors.mirrored, live=LIVE),
    made(texts.book_text, book=BENT),
    made(texts.book_of_text, text=texts.book_text(BENT)),
    made(deedtexts.start_text, start=START),
    made(deedtexts.start_of_text, text="weighed 5 0 1 / 2 0"),
    made(deedtexts.deed_text, deed=("led", TABLE)),
    made(deedtexts.deed_of_text, text="put 0 7 2 1"),
    made(journals.journal_text, live=LIVE),
    made(journals.led_live, text=journals.journal_text(LIVE)),
    made(desk.Desk, start=START),
]

CALLS = FIRST + SECOND + THIRD + FOURTH + FIFTH + SIXTH

# The methods of the live rule book and of the desk, with right calls.
METHODS = [
    ("LiveBook", "do", {"deed": ("put", [0, 0, 1, 9])}),
    ("LiveBook", "deeds", {}),
    ("LiveBook", "undo", {}),
    ("LiveBook", "redo", {}),
    ("LiveBook", "watch_sum", {"name": "b", "length": 1, "row": [2, -1]}),
    ("LiveBook", "watch_tell", {"name": "b", "length": 1, "row": [2, -1]}),
    ("LiveBook", "unwatch", {"name": "a"}),
    ("LiveBook", "watched", {}),
    ("LiveBook", "values_told", {}),
    ("LiveBook", "rests_told", {}),
    ("LiveBook", "told", {}),
    ("LiveBook", "mark", {"name": "n"}),
    ("LiveBook", "marks", {}),
    ("LiveBook", "marked", {"name": "m"}),
    ("LiveBook", "carried", {"name": "m"}),
    ("Desk", "say", {"line": "counts"}),
]

# Parameters that hold tuples that may not be lists.
TUPLES = (("spot_of", "word"), ("word_book", "some"), ("is_bar", "thing"), ("overlap_row", "word"),
          ("is_settled", "word"), ("replaced", "word"), ("kept_letters", "places"), ("left_out", "places"),
          ("long_place", "word"), ("started", "start"), ("is_deed", "thing"), ("LiveBook", "start"),
          ("mirrored_start", "start"), ("mirrored_deed", "deed"), ("start_text", "start"), ("deed_text", "deed"),
          ("Desk", "start"))
ROW_ERRORS = {"table": ("BadTable", None), "weights": ("BadTable", None), "places": ("BadNumber", "place"),
              "order": ("BadOrder", None), "lines": ("BadWeb", None), "nothings": ("BadWeb", None),
              "form": ("BadTable", None), "square": ("BadTable", None), "cells": ("BadCells", None)}


def error_of(name):
    """What a parameter of this name that holds True in the place of a number must raise."""
    if name == "prime":
        return ("BadPrime", None)
    return ("BadNumber", name)


def row_error_of(function, name):
    """The same for a list or tuple with True in it."""
    if function == "sent_behind":
        return ("BadTable", None)
    return ROW_ERRORS.get(name, ("BadWord", None) if name in ("word", "some") else ("BadRow", None))


# Functions with a parameter that takes any value, to be judged.
ANY = (("is_fitting", "thing"), ("is_bar", "thing"), ("is_order", "order"), ("is_word_basis", "some"),
       ("keeps", "thing"), ("is_map", "thing"), ("cells_keep", "cells"), ("is_deed", "thing"))
# Parameters that are tuples with words in them, texts or live rule books: what is wrong with them has tests of its own.
OTHERS = ("start", "deed", "text", "live")
# Where the document asks for another sequence than from left to right.
LATER = (("rest_product", "one"), ("long_product", "one"))

INTERFACE = {
    "words": ("spot_of", "word_at", "words", "beside", "row_led"),
    "rooms": ("tidy", "room_sum", "room_common", "room_dark", "is_within"),
    "books": ("Rules", "free_book", "shut_book", "exchange_book", "minus_book", "weighed_book", "book_led",
              "read_back"),
    "rests": ("nothing_room", "rest_words", "count", "rest", "rest_product", "ending", "idle"),
    "shadows": ("shadow", "is_under", "joined_rules", "common_rules"),
    "places": ("at_place", "at_places", "common_at", "common_room", "pairing"),
    "ladders": ("rung_size", "letters_off", "step_rows", "lost", "first_lost", "fits"),
    "undoing": ("back_counts", "counts_undo"),
    "leasts": ("least_ladder",),
    "relations": ("relation_numbers", "first_gap", "relations_straight"),
    "cuts": ("cut_words", "cut_rows", "cut_numbers"),
    "lattices": ("all_sum", "all_common", "closed_rooms"),
    "bases": ("is_fitting", "fitting_basis", "lot_numbers"),
    "bars": ("gap", "bar", "is_bar", "counted_size"),
    "placerooms": ("place_rooms", "fitting_at", "gaps", "first_barred"),
    "orders": ("is_order", "head_of", "heads", "head_rules", "plain_words", "head_words", "word_book"),
    "settled": ("is_tidy", "overlaps", "overlap_row", "is_settled", "unsettled"),
    "sweeps": ("replaced", "swept"),
    "wordrooms": ("is_word_basis", "word_basis"),
    "follows": ("follows", "count_long", "count_far"),
    "series": ("unrolled", "fraction"),
    "growths": ("growth",),
    "trials": ("tidy_orders", "first_tidy"),
    "webs": ("web_book", "shut_web", "web_lots"),
    "weblots": ("web_fraction", "shut_fraction", "is_straight", "first_straight"),
    "sides": ("free_sides", "shut_sides", "ahead_sides", "behind_sides", "weighed_sides", "sides_told"),
    "products": ("woven", "white_product", "black_product", "spaced_book"),
    "twists": ("keeps", "turned_book", "passed_book"),
    "shares": ("kept_letters", "left_out", "shared_sides"),
    "maps": ("is_map", "row_sent", "lost_by", "reached_by", "sent_behind", "sent_back", "letter_maps", "keepers",
             "bent"),
    "lowered": ("Lowered", "unlowered"),
    "longs": ("long_size", "long_place", "long_word", "long_cut", "long_joined", "long_rules", "lowered_from"),
    "upto": ("long_nothing", "kept_words", "count_up_to", "long_rest", "long_product", "tops"),
    "losses": ("loss", "first_loss", "defects"),
    "curved": ("shadow_curve", "shadow_slope", "shadow_step", "has_step", "lowered_by"),
    "lowerings": ("sums_room", "numbers_for", "lowerings"),
    "moved": ("lowered_moved", "lowered_led", "lowered_read_back", "least_lowered"),
    "families": ("bracket_lowered", "form_lowered", "twist_lowered"),
    "raised": ("raised",),
    "forms": ("top_length", "pair_square", "is_paired", "turner"),
    "formfamilies": ("square_book", "signed_sum", "ring_sum"),
    "rising": ("rising_map", "rising_lost"),
    "telling": ("told_counts", "counts_back"),
    "sums": ("rules_of_sum", "rules_from_right", "is_full", "turned_round", "round_table"),
    "wholesums": ("whole_sum", "sums_for"),
    "keeping": ("cells_keep", "beside_led", "keeping_book", "plain_cells", "cells_sent"),
    "keepsplits": ("keeping_split", "plain_number"),
    "minors": ("rest_minors", "common_minors", "determinant"),
    "bothsides": ("both_book", "two_determinants", "passing_table"),
    "twos": ("rule_kind", "rule_table", "kinds_of"),
    "classes": ("least_led", "led_many", "two_classes"),
    "live": ("started", "is_deed", "LiveBook"),
    "mirrors": ("mirrored_start", "mirrored_deed", "mirrored"),
    "texts": ("book_text", "book_of_text"),
    "deedtexts": ("start_text", "start_of_text", "deed_text", "deed_of_text"),
    "journals": ("journal_text", "led_live"),
    "desk": ("Desk",),
}
