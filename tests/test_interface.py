"""Each name of the interface stands in its file, with its parameters."""

import importlib
import inspect
import unittest

NAMES = {
    "words": ["is_word(thing)", "is_note(thing)", "is_token(thing)"],
    "terms": ["is_scope(thing)", "is_way(thing, gap)"],
    "carrying": ["hear(book, standing, token, pick=0)", "finish(book, standing)", "carried(book, reading)",
                 "plain_reading(text)", "text_of(reading)"],
    "booktext": ["write_term(term)", "write_book(book)", "read_term(lines)", "read_book(lines)"],
    "styletext": ["write_style(style)", "read_style(lines)"],
    "worktext": ["write_reading(reading)", "read_reading(line)", "write_work(chapters)", "read_work(lines)"],
    "logtext": ["write_log(changes)", "read_log(lines)", "taken_up(lines)"],
    "turners": ["judge_turners(turns, table)"],
    "turnwords": ["led(turners, word, other)", "gathered(turners, words)", "surely_gathered(turners, words)"],
    "turnback": ["undone(turners, row, words)", "ring(turners, row)", "spare(turners)"],
    "pieces": ["pieces(book, reading)", "holding(book, text, place)"],
    "uses": ["judge_use(book, style, name, table)"],
    "fights": ["fights(book, style)"],
    "growth": ["judge_heights(road, style, rate, heights)"],
    "keeping": ["judge_keeping(road, rules, style, table)"],
    "able": ["judge_able(road, rules, style, table)"],
    "atonce": ["judge_at_once(road, rules, style, sight, positions)", "least_sight(road, rules, style)"],
    "alike": ["judge_alike(first, second, style, table)"],
    "begun": ["classes(outlook)"],
    "needless": ["book_without(book, name)", "needless(book, style)", "lean(book, style)"],
    "scopes": ["scopes_of(tongue)", "with_scope(book, name, scope)", "same_scopes(book, style, name)",
               "exchangeable(book, style)"],
    "wants": ["is_want(thing)", "wanted(want, text)"],
    "knownlook": ["judge_known(road, want, style, table)"],
    "notes": ["noted(book, lot)"],
    "telling": ["told_by(road, page, want, style)"],
    "questions": ["judge_plan(texts, want, plan)"],
    "journeys": ["judge_journeys(web, house, table)"],
    "together": ["judge_apart(web, house, one, other, table)", "left_out(web, house)"],
    "rounds": ["keepers(web, house)", "spare_books(web)"],
    "changes": ["is_change(thing)", "changed(book, change)", "changed_by(book, changes)"],
    "commuting": ["all_commute(shelf, style)"],
    "renewals": ["renewed(shelf, style, page, row)"],
    "detours": ["detour(renewals, n, m)", "lookings(renewals, n, m)", "leading_back(shelf, style)"],
    "works": ["turned(old, new, reading)", "turned_chapters(old, new, chapters)"],
    "handover": ["handed(book, standing, lot)", "taken(paper, lot)", "by_hands(book, chapters, lot)",
                 "papers(book, style, lot)"],
    "seams": ["least_lots(book, style, *, headings=False)",
              "judge_seams(book, style, lot, table, *, headings=False)"],
    "readers": ["gives(book, chapter, full)", "needs(book, chapter, full)",
                "judge_readers(book, chapters, links, starts, full, table)"],
    "fulls": ["least_fulls(book, chapters, links, starts)"],
    "archives": ["rebook(archive, book)", "tried(archive, changes, n)", "tried_apart(archive, lots, n)",
                 "tried_within(archive, lots, n)"],
}

CLASSES = {
    ("wordmaps", "WordMap"): ["__init__(self, pairs=())", "__len__(self)", "__iter__(self)", "__eq__(self, other)",
                              "__contains__(self, word)", "__call__(self, word)", "then(self, second)", "of(pairs)"],
    ("tongues", "Tongue"): ["__init__(self, words, *, headings=(), quote=None)", "__len__(self)", "__iter__(self)",
                            "__contains__(self, word)", "__eq__(self, other)"],
    ("styles", "Style"): ["__init__(self, rooms, ends)", "__len__(self)", "__iter__(self)", "__eq__(self, other)",
                          "let(self, room)", "is_end(self, room)", "reads(self, text)", "free(words)"],
    ("terms", "Term"): ["__init__(self, name, pattern, ways, *, scope=('work',), first=None, turn=None)",
                        "__len__(self)", "__eq__(self, other)"],
    ("books", "Book"): ["__init__(self, tongue, terms=(), *, turns=())", "__getitem__(self, name)",
                        "__contains__(self, name)", "__len__(self)", "__iter__(self)", "__eq__(self, other)",
                        "turn_of(self, name)"],
    ("roads", "Road"): ["__init__(self, *books)", "hear(self, standing, word, pick=0)", "finish(self, standing)",
                        "__call__(self, reading)", "__add__(self, other)", "__len__(self)", "__iter__(self)",
                        "__eq__(self, other)"],
    ("outlooks", "Outlook"): ["__init__(self, road, style)", "__len__(self)", "__iter__(self)",
                              "__getitem__(self, n)", "follow(self, n)", "way(self, n)", "ending(self, n)",
                              "place_of(self, state)"],
    ("turners", "Turners"): ["__init__(self, turns)", "__call__(self, row)", "along(self, row)",
                             "place_of(self, word_map)", "__len__(self)", "__iter__(self)"],
    ("uses", "Use"): ["__init__(self, book, style, name)", "__bool__(self)"],
    ("fights", "Fight"): ["__init__(self, book, style, one, other)", "__bool__(self)"],
    ("growth", "Growth"): ["__init__(self, road, style)", "__eq__(self, other)"],
    ("rules", "Rules"): ["__init__(self, rows)", "__len__(self)", "__iter__(self)", "__eq__(self, other)",
                         "broken(self, page)", "covers(self, other)", "__add__(self, other)"],
    ("keeping", "Keeping"): ["__init__(self, road, rules, style)", "__bool__(self)"],
    ("able", "Able"): ["__init__(self, road, rules, style)", "__bool__(self)"],
    ("atonce", "AtOnce"): ["__init__(self, road, rules, style, *, sight=0)", "__bool__(self)",
                           "pick_for(self, position)", "answer(self, position, pick)"],
    ("alike", "Alike"): ["__init__(self, first, second, style)", "__bool__(self)", "__len__(self)", "__iter__(self)"],
    ("begun", "Begun"): ["__init__(self, outlook, first, second)", "__bool__(self)"],
    ("wants", "Words"): ["__init__(self, lot)", "__len__(self)", "__iter__(self)", "__contains__(self, word)",
                         "__eq__(self, other)", "hear(self, standing, word, pick=0)", "finish(self, standing)"],
    ("known", "Known"): ["__init__(self, road, want, style)", "__bool__(self)", "__len__(self)", "__iter__(self)"],
    ("notes", "Notes"): ["__init__(self, book, want, style)", "__bool__(self)", "__len__(self)", "__iter__(self)",
                         "__contains__(self, lot)"],
    ("sources", "Sources"): ["__init__(self, road, page, style)", "__bool__(self)", "__len__(self)", "__iter__(self)"],
    ("sourcetexts", "SourceTexts"): ["__init__(self, road, page, style)", "__getitem__(self, n)",
                                     "__contains__(self, text)", "upto(self, length)"],
    ("sure", "Sure"): ["__init__(self, road, page, want, style)", "__bool__(self)"],
    ("questions", "Questions"): ["__init__(self, road, page, want, style)", "settle(self, text)"],
    ("webs", "Web"): ["__init__(self, houses, books=())", "__len__(self)", "__iter__(self)", "__contains__(self, name)",
                      "__eq__(self, other)", "words_of(self, house)", "leaving(self, house)",
                      "after(self, house, journey)"],
    ("journeys", "Journeys"): ["__init__(self, web, house)", "__len__(self)", "__iter__(self)", "along(self, journey)",
                               "place_of(self, house, images)"],
    ("together", "Together"): ["__init__(self, web, house, one, other)", "__bool__(self)"],
    ("rounds", "Round"): ["__init__(self, web, house, journey)", "fate(self, word)"],
    ("shelves", "Shelf"): ["__init__(self, book, menu)", "__len__(self)", "__iter__(self)", "__getitem__(self, n)",
                           "follow(self, n)", "way(self, n)", "after(self, row)", "place_of(self, book)"],
    ("commuting", "Commuting"): ["__init__(self, book, first, second, style)", "__bool__(self)"],
    ("renewals", "Renewals"): ["__init__(self, shelf, style)", "__bool__(self)", "sure(self, n, k)"],
    ("handover", "Prepared"): ["__init__(self, book, reading, lot)", "__call__(self, paper)", "__add__(self, other)",
                               "__len__(self)", "__iter__(self)"],
    ("seams", "Seams"): ["__init__(self, book, style, lot, *, headings=False)", "__bool__(self)"],
    ("readers", "Readers"): ["__init__(self, book, chapters, links, starts, full)", "__bool__(self)",
                             "keeps(self, path)"],
    ("archives", "Archive"): ["__init__(self, style, book)", "enter(self, reading)", "amend(self, change)",
                              "renew(self, n)", "__getitem__(self, n)", "__len__(self)", "__iter__(self)"],
    ("archives", "Trial"): ["__init__(self, archive)", "__enter__(self)", "__exit__(self, kind, value, trace)"],
}

PROPERTIES = {
    ("styles", "Style"): ["vocabulary"], ("terms", "Term"): ["gap"], ("books", "Book"): ["names", "picks"],
    ("roads", "Road"): ["picks", "beginning"], ("turners", "Turners"): ["names"], ("wants", "Words"): ["beginning"],
    ("archives", "Archive"): ["present", "editions", "stale"],
}


def module(name):
    return importlib.import_module("keptacross." + name)


class Interface(unittest.TestCase):
    def test_functions(self):
        for name, signatures in NAMES.items():
            for signature in signatures:
                with self.subTest(module=name, function=signature):
                    function = getattr(module(name), signature.partition("(")[0])
                    self.assertTrue(inspect.isfunction(function))
                    self.assertEqual(function.__module__, "keptacross." + name)
                    self.assertEqual(function.__name__ + str(inspect.signature(function)), signature)

    def test_classes(self):
        for (name, title), signatures in CLASSES.items():
            listed = getattr(module(name), title)
            self.assertEqual(listed.__module__, "keptacross." + name)
            for signature in signatures:
                with self.subTest(listed=title, method=signature):
                    method = signature.partition("(")[0]
                    self.assertIn(method, vars(listed))
                    self.assertEqual(method + str(inspect.signature(getattr(listed, method))), signature)

    def test_properties(self):
        for (name, title), properties in PROPERTIES.items():
            for asked in properties:
                with self.subTest(listed=title, asked=asked):
                    self.assertIsInstance(vars(getattr(module(name), title))[asked], property)

    def test_values(self):
        self.assertEqual(module("words").GAP, "_")
        self.assertEqual(module("carrying").BEGINNING, ("", 0, (), (), (), ()))
        self.assertEqual(vars(module("outlooks").Outlook)["MOST"], 300)
        self.assertEqual(module("handover").THINGS, ("held", "scope", "turn", "used"))

    def test_the_package_binds_nothing_itself(self):
        package = importlib.import_module("keptacross")
        self.assertTrue(package.__doc__)


if __name__ == "__main__":
    unittest.main()
