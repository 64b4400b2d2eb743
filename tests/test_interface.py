"""Each function of the interface is defined in its file, with its arguments, and checks them from left to right."""

import inspect

import chainpapers.certificates
import chainpapers.files
import chainpapers.names
import chainpapers.seals
import chainpapers.sealing
import chainpapers.stores
import chainpapers.valuerows
from tests.support import Case

INTERFACE = {
    chainpapers.names: ["is_name(value)", "is_other_name(value)", "is_subtree(value)"],
    chainpapers.seals: ["is_row(value)", "seal_of(key, row)"],
    chainpapers.certificates: ["is_certificate(value)", "part_of(certificate, word)", "is_self_issued(certificate)",
                               "with_part(certificate, word, value)"],
    chainpapers.stores: ["is_list(value)", "is_anchor(value)", "is_store(value)", "is_question(store, value)"],
    chainpapers.sealing: ["certificate_row(certificate)", "list_row(own)", "sealed_certificate(certificate)",
                          "sealed_list(own)", "is_sealed(certificate)", "is_sealed_list(own)"],
    chainpapers.valuerows: ["is_value(value)", "row_of(value)", "read_value(row)", "first_refused(row)",
                            "goes_on(row)"],
    chainpapers.files: ["file_row(values)", "read_file(row)", "places_of(row)", "values_ahead(row)",
                        "sealed_file(key, values)", "open_file(key, row)"],
}


class Interface(Case):
    def test_functions(self):
        for module, functions in INTERFACE.items():
            for told in functions:
                function = getattr(module, told.partition("(")[0])
                self.assertEqual(function.__name__ + str(inspect.signature(function)), told)
                self.assertEqual(function.__module__, module.__name__)
