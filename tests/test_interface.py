"""Each function of the interface is defined in its file, with its arguments, and checks them from left to right."""

import inspect

import chainpapers.answers
import chainpapers.answertimes
import chainpapers.askings
import chainpapers.bars
import chainpapers.builder
import chainpapers.candidates
import chainpapers.certificates
import chainpapers.constraints
import chainpapers.deltas
import chainpapers.depths
import chainpapers.desk
import chainpapers.diagnoses
import chainpapers.differences
import chainpapers.files
import chainpapers.hangingchains
import chainpapers.histories
import chainpapers.laxer
import chainpapers.limits
import chainpapers.names
import chainpapers.orderrows
import chainpapers.pathlists
import chainpapers.plainly
import chainpapers.policyleads
import chainpapers.policyorder
import chainpapers.policypapers
import chainpapers.policyparts
import chainpapers.policyrows
import chainpapers.policysteps
import chainpapers.reaching
import chainpapers.regions
import chainpapers.rights
import chainpapers.rowchanges
import chainpapers.sealing
import chainpapers.seals
import chainpapers.statechanges
import chainpapers.steps
import chainpapers.storechanges
import chainpapers.stores
import chainpapers.subtrees
import chainpapers.targets
import chainpapers.texts
import chainpapers.thingrows
import chainpapers.times
import chainpapers.treepapers
import chainpapers.valuerows
import chainpapers.views
import chainpapers.walks
import chainpapers.walkstates
import chainpapers.withdrawal
import chainpapers.withdrawalpapers
import chainpapers.witnesses
from tests.support import Case

INTERFACE = {
    chainpapers.names: ["is_name(value)", "is_other_name(value)", "is_subtree(value)"],
    chainpapers.seals: ["is_row(value)", "seal_of(key, row)"],
    chainpapers.certificates: ["is_certificate(value)", "part_of(certificate, word)", "is_self_issued(certificate)",
                               "with_part(certificate, word, value)"],
    chainpapers.stores: ["is_list(value)", "is_anchor(value)", "is_store(value)", "is_question(store, value)"],
    chainpapers.sealing: ["certificate_row(certificate)", "list_row(own)", "sealed_certificate(certificate)",
                          "sealed_list(own)", "is_sealed(certificate)", "is_sealed_list(own)"],
    chainpapers.valuerows: ["is_value(value)", "row_of(value)", "read_value(row)", "first_refused(row)",
                            "goes_on(row)"],
    chainpapers.files: ["file_row(values)", "read_file(row)", "places_of(row)", "values_ahead(row)",
                        "sealed_file(key, values)", "open_file(key, row)"],
    chainpapers.thingrows: ["anchor_row(anchor)", "store_row(store)", "question_row(store, question)",
                            "read_certificate(row)", "read_list(row)", "read_anchor(row)", "read_store(row)",
                            "read_question(store, row)"],
    chainpapers.rowchanges: ["change_of(one, other)", "changed_row(row, change)", "change_back(row, change)",
                             "changes_of(one, other)", "changed_value(value, changes)"],
    chainpapers.orderrows: ["order_row(value)", "read_order(row)", "order_goes_on(row)"],
    chainpapers.subtrees: ["is_title(value)", "holds(subtree, title)", "is_within(one, other)"],
    chainpapers.regions: ["is_region(value)", "whole_region()", "region_of(subtrees)", "is_in(region, title)",
                          "meet_of(one, other)", "join_of(one, other)", "less_of(one, other)", "other_of(region)"],
    chainpapers.witnesses: ["title_in(region)", "apart_paper(one, other)", "cover_paper(one, other)"],
    chainpapers.constraints: ["let_by(permitted, excluded)", "lets(permitted, excluded, title)",
                              "narrowed(region, permitted, excluded)", "gathered(pairs)", "bar_paper(pairs, title)",
                              "is_bar_paper(pairs, title, value)"],
    chainpapers.rights: ["uses_of(certificate)", "purposes_of(certificate)", "may_seal(certificate)",
                         "chain_purposes(chain)", "purposes_met(one, other)"],
    chainpapers.depths: ["depth_of(certificate)", "counted_behind(chain, place)", "left_row(depth, chain)"],
    chainpapers.times: ["is_times(value)", "times_joined(one, other)", "times_met(one, other)", "times_less(one, other)",
                        "has_time(times, time)", "chain_times(chain)", "times_of_chains(chains)"],
    chainpapers.limits: ["is_limits(value)", "limits_started(depth)", "limits_behind(limits, certificate, is_last)",
                         "limits_of(depth, chain)", "limits_let(limits, time, purposes)", "are_laxer(one, other)",
                         "limits_parting(one, other)"],
    chainpapers.bars: ["is_let(depth, chain, time, purposes, uses)", "all_bars(depth, chain, time, purposes, uses)",
                       "first_bar(depth, chain, time, purposes, uses)",
                       "takes_bar(depth, chain, time, purposes, uses, value)"],
    chainpapers.policyparts: ["limits_of(certificate)", "numbers_along(numbers, path)"],
    chainpapers.policyrows: ["words_from(numbers, certificate, is_last, expected)",
                             "expected_from(numbers, certificate, word)", "is_policy_row(numbers, path, value)",
                             "policy_rows(numbers, path)", "origin_of(row)"],
    chainpapers.policysteps: ["policy_start(numbers)", "policy_entered(state, certificate, is_last)",
                              "policy_passed(state, certificate)", "policy_ended(state, certificate, wanted)",
                              "policies_let(numbers, path, wanted)"],
    chainpapers.policypapers: ["held_row(numbers, path, policy)", "shows_held(numbers, path, policy, value)",
                               "lost_sets(numbers, path, policy)", "shows_lost(numbers, path, policy, value)"],
    chainpapers.policyorder: ["policy_laxer(state, other)"],
    chainpapers.policyleads: ["led_on(state, path)", "policy_leads(numbers, path)"],
    chainpapers.reaching: ["list_names(certificate)", "family_of(own)",
                           "reaches(own, sealers, certificate, time, grace)"],
    chainpapers.deltas: ["can_be_laid(whole, delta)", "laid_entries(whole, delta)"],
    chainpapers.histories: ["is_history(value)", "entries_after(history, number)",
                            "history_list(history, frame, base, number)"],
    chainpapers.views: ["views_of(lists, sealers, certificate, time, grace)",
                        "newest_views(lists, sealers, certificate, time, grace)"],
    chainpapers.withdrawal: ["state_of(lists, sealers, certificate, time, grace)",
                             "state_word(lists, sealers, certificate, time, grace)"],
    chainpapers.withdrawalpapers: ["takes_state(lists, sealers, certificate, time, grace, value)"],
    chainpapers.statechanges: ["state_changes(lists, sealers, certificate, grace, low, high)"],
    chainpapers.walkstates: ["is_walk_state(value)", "begun(store, question, anchor)", "titles_of(certificate)",
                             "walk_sealers(store, question, state)"],
    chainpapers.steps: ["entered(store, question, state, index)", "passed(store, question, state, index)",
                        "ended(store, question, state, index)"],
    chainpapers.walks: ["walk(store, question, anchor, path)", "states_along(store, question, anchor, path)"],
    chainpapers.plainly: ["plain_bars(store, question, anchor, path)", "reason_word(number)"],
    chainpapers.laxer: ["is_laxer(state, other)"],
    chainpapers.candidates: ["fits_behind(certificate, name, key)", "candidates(store, name, key)", "links(store)",
                             "linked(store)"],
    chainpapers.hangingchains: ["does_hang(store, question, value)", "walk_of(store, question, chain)"],
    chainpapers.builder: ["built(store, question)", "built_whole(store, question)"],
    chainpapers.treepapers: ["takes_tree(store, question, value)", "takes_built(store, question, value)"],
    chainpapers.storechanges: ["with_certificate(store, certificate)", "without_certificate(store, index)",
                               "moved_chain(store, other, chain)"],
    chainpapers.targets: ["built_each(store, question, targets)", "reached(store, question)",
                          "needed(store, question)"],
    chainpapers.pathlists: ["paths_of(store, question)", "least_path(store, question)"],
    chainpapers.texts: ["write_name(name)", "write_other(other)", "write_subtree(subtree)",
                        "write_certificate(certificate)", "write_list(own)", "write_anchor(anchor)",
                        "write_question(store, question)", "write_store(store)", "read_name(text)", "read_other(text)",
                        "read_subtree(text)", "read_certificate(text)", "read_list(text)", "read_anchor(text)",
                        "read_question(store, text)", "read_store(text)", "first_refused(sort, text)"],
    chainpapers.differences: ["store_steps(store, other)", "applied(store, steps)"],
    chainpapers.desk: ["desk_of(deeds)"],
    chainpapers.answers: ["answered(store, question)", "takes(store, question, value)", "cut_words(store, question)"],
    chainpapers.answertimes: ["change_times(store, question, low, high)", "answers_over(store, question, low, high)",
                              "times_let(store, question, low, high)", "takes_over(store, question, low, high, value)"],
    chainpapers.askings: ["purposes_let(store, question)", "uses_let(store, question)",
                          "policies_held(store, question)", "least_most(store, question)"],
    chainpapers.diagnoses: ["hanging_chains(store, question)", "flawed_chains(store, question)",
                            "least_flawed(store, question)"],
}
DESK_METHODS = ["store(self)", "put(self, text)", "take_out(self, text)", "deeds(self)", "undo(self)", "redo(self)",
                "withdraw(self, issuer, sealer, serial, when, reason, since, until)",
                "give_back(self, issuer, sealer, serial, since, until)"]


class Interface(Case):
    def test_functions(self):
        for module, functions in INTERFACE.items():
            for told in functions:
                function = getattr(module, told.partition("(")[0])
                self.assertEqual(function.__name__ + str(inspect.signature(function)), told)
                self.assertEqual(function.__module__, module.__name__)

    def test_desk(self):
        self.assertEqual(chainpapers.desk.Desk.__module__, "chainpapers.desk")
        self.assertEqual(str(inspect.signature(chainpapers.desk.Desk)), "()")
        for told in DESK_METHODS:
            method = vars(chainpapers.desk.Desk)[told.partition("(")[0]]
            self.assertEqual(method.__name__ + str(inspect.signature(method)), told)
