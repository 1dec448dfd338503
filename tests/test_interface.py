"""The names, files and parameters of the interface, as far as it has landed ([3])."""

import importlib
import inspect
import unittest

INTERFACE = {
    "rows": "need_row(row) is_row(value) need_word(word,sorts) length_of(row) flat(row) plain(word) "
            "mark_at(row,place) window(row,place,many)",
    "pieces": "cut_out(row,start,stop) rows_joined(row,other_row) turned_about(row)",
    "numbered": "mark_count(row,mark,place) mark_counts(row) place_of(row,mark,number) "
                "place_from_end(row,mark,number)",
    "comparing": "first_unlike(row,other_row) read_alike(row,other_row) is_ahead(row,other_row) "
                 "common_end(row,other_row)",
    "roots": "root(row) commute(row,other_row) common_root(row,other_row)",
    "stretches": "has_period(row,number) least_period(row) stretch_end(row,place,number) "
                 "longest_stretch(row,number)",
    "finding": "times_found(row,word) found_at(row,word,number)",
    "writings": "weight(row) least_writing(row) all_writings_number(row)",
    "readers": "reader_fault(value) is_reader(value) need_reader(reader) need_fit(reader,row) "
               "met_stands(reader) greatest_hold(reader)",
    "reading": "read(reader,row) point(reader,row) mark_pointed(reader,row) first_reading(reader) "
               "go_on(reader,reading,row) end_point(reader,reading) points_along(reader,row)",
    "tallies": "tally(reader,row) points_none(reader,row) points_newest(reader,row) "
               "span(reader,row,place) held_longest(reader,row)",
    "named": "reader_named(name,sorts) first_of(order,sorts) last_of(order,sorts)",
    "sieves": "sieve_fault(value) is_sieve(value) need_sieve(sieve) need_row_for(sieve,row)",
    "picking": "picked(sieve,row) frame(sieve,row,place) is_picked(sieve,row,place) "
               "pick_number(sieve,row) picks_ahead(sieve,row,place) pick_at(sieve,row,number) "
               "measure(sieve,row) measures_joined(sieve,first,second)",
    "leastsieves": "least_sieve(sieve) are_alike_sieves(sieve,other) picks_parted(sieve,other)",
    "combined": "both(sieve,other) either(sieve,other) but(sieve,other) just_one(sieve,other) "
                "opposite(sieve) backwards(sieve) sieve_of_marks(sorts,marks)",
    "climbs": "most_picks(sieve) rise(sieve) two_picks(sieve)",
    "lookers": "is_looker(sieve) need_looker(sieve) reader_of(sieve) first_pick(sieve) "
               "last_pick(sieve) looker_of(reader)",
    "records": "records_of(reader) candidates_of(reader)",
    "patterns": "pattern_of(reader,other,row) next_pattern(reader,other,pattern,mark) "
                "patterns(reader,other) pattern_row(reader,other,pattern)",
    "relations": "relation_in(reader,other,row) relations(reader,other) "
                 "relation_row(reader,other,word) is_always(reader,other,words) "
                 "row_against(reader,other,words)",
    "likes": "are_alike(reader,other) parting_row(reader,other) likeness_paper(reader,other) "
             "need_likeness_paper(reader,other,paper)",
    "holding": "one_hands(reader,other) is_kept(reader,other) row_unkept(reader,other) "
               "is_covered(reader,other) row_uncovered(reader,other)",
    "views": "view_in(reader,other,row) views(reader,other) view_row(reader,other,view)",
    "gaps": "gap_in(reader,other,row) gap_comes(reader,other,number) gap_row(reader,other,number) "
            "gap_ends(reader,other) gap_sides(reader,other)",
    "needs": "hands_paper(reader) is_hands_paper(reader,paper) stands_paper(reader) "
             "is_stands_paper(reader,paper)",
    "renumbered": "renumbered(reader,order,hands) renaming(reader,other)",
    "plenty": "all_readers(sorts,stands) rows_to(reader,number,modulus) "
              "rows_none(reader,number,modulus) places_hit(reader,number)",
    "behaviours": "behaviour(reader,row) need_behaviour(reader,value) "
                  "behaviours_joined(reader,value,other_value)",
    "surroundings": "handed_on(reader,row) stand_for(reader,row,other_row) "
                    "rows_parted(reader,row,other_row) is_rows_parting(reader,row,other_row,value)",
    "kinds": "part_kinds(reader) kind_of(reader,row) kind_product(reader,number,other_number) "
             "width(reader) idle_word(reader) forgetting_word(reader)",
    "summaries": "summary(reader,row) need_summary(reader,value) "
                 "summaries_merged(reader,value,other_value) summary_often(reader,value,times) "
                 "tree_summary(reader,tree) summary_point(reader,value)",
    "runs": "long_run(reader,row,part,other_row)",
    "merging": "unmerged(reader)",
    "changes": "need_change(row,change) changed(row,change) place_behind(row,change,place) "
               "place_ahead(row,change,place) taking_back(row,change)",
    "outcomes": "outcome(reader,row,change)",
    "outlooks": "outlook(reader,kind) least_outcome(reader,kind,pair)",
    "rankings": "need_ranking(ranking,sorts) ranking_point(ranking,row) "
                "reader_of_ranking(ranking,sorts) all_rankings(sorts) ranking_number(number) "
                "ranking_else(ranking,other_ranking)",
    "steadiness": "is_steady(reader) ranking_of(reader) harmless_marks(reader) steady_break(reader)",
    "critical": "is_critical(reader,row,place) critical_sieve(reader) marked_sieve(reader,mark)",
    "evenness": "is_even(reader) even_break(reader)",
    "rules": "condition_fault(value) rule_fault(value) need_condition(condition) need_rule(rule) "
             "such_entries(condition,row) rule_point(rule,row)",
    "meant": "sieve_meant(condition,sorts) reader_meant(rule,sorts)",
    "ruled": "mean_alike(condition,other,sorts) rules_alike(rule,other,sorts) "
             "condition_apart(condition,other,sorts) rule_apart(rule,other,sorts) "
             "first_such(condition,sorts) never_such(condition,sorts) always_such(condition,sorts)",
    "weaves": "reader_else(reader,other) former(reader,other) latter(reader,other) reader_if(reader,other) "
              "reader_where(reader,other) on_marks(reader,marks) mirrored(reader) renamed(reader,marks)",
    "within": "part_behind(reader,other) part_ahead(reader,other) between(reader,other,third)",
    "ends": "ends(reader,row) candidates(reader,row) continuation(reader,row,end)",
    "settled": "is_settled(reader,row) settling(reader,row) settled_ends(reader,row) last_open(reader) "
               "open_run(reader,number)",
    "nearest": "fewest_to(reader,row,place) script_to(reader,row,place) fewest_off(reader,row) script_off(reader,row)",
    "forcing": "forced_in(reader,row,end,turn) forcing_mark(reader,row,end) holding_mark(reader,row,end)",
    "ordering": "order_of(reader,row) order_number(reader,row) order_at(reader,row,number) "
                "order_rank(reader,row,place)",
    "sharing": "shares(reader,other,row)",
    "scarce": "least_scarce(reader,number)",
    "lettering": "is_name(value)",
    "texts": "row_text(row) reader_text(reader) sieve_text(sieve) rule_text(rule) condition_text(condition)",
    "parsing": "parse_row(text) parse_reader(text) parse_sieve(text) parse_rule(text) parse_condition(text)",
    "logs": "log_text(live) read_log(text)",
    "sheets": "sheet_entries(text) judged(text)",
    "least": "live_words(reader) least_reader(reader) hands_needed(reader) stands_needed(reader)",
}


class InterfaceTest(unittest.TestCase):
    def test_functions(self):
        for name, listed in INTERFACE.items():
            module = importlib.import_module("pointingreads." + name)
            for item in listed.split():
                function, parameters = item[:-1].split("(")
                found = getattr(module, function)
                self.assertTrue(inspect.isfunction(found), item)
                self.assertEqual(found.__module__, module.__name__, item)
                self.assertEqual(list(inspect.signature(found).parameters), parameters.split(","), item)

    def test_class(self):
        from pointingreads.live import Live
        self.assertEqual(Live.__module__, "pointingreads.live")
        listed = (
            "__init__(self,holder,row) __eq__(self,other) put(self,place,mark) lose(self,place) "
            "remark(self,place,mark) take_back(self,stamp) take_over(self,other) twin(self,holder) "
            "tag_at(self,place) place_of(self,tag) mark_of(self,tag) is_in_force(self,stamp) "
            "marks(self,place,many) tags(self,place,many) parts(self) point(self,reader)")
        for item in listed.split():
            method, parameters = item[:-1].split("(")
            self.assertEqual(list(inspect.signature(vars(Live)[method]).parameters), parameters.split(","), item)
        self.assertIsInstance(vars(Live)["length"], property)

    def test_values(self):
        from pointingreads.named import NAMES
        self.assertEqual(NAMES, (
            "none", "first", "last", "second", "next to last", "third", "first or last", "new",
            "even last", "same as first"))
        from pointingreads.relations import RELATIONS
        self.assertEqual(RELATIONS, ("none", "first", "second", "same", "ahead", "behind"))
        from pointingreads.changes import KINDS
        self.assertEqual(KINDS, ("lost", "put", "turned", "marked"))


if __name__ == "__main__":
    unittest.main()
