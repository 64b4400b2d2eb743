"""The words that certificates, lists and questions choose from, ascending, and those for what bars a walk."""

USES = ("agree", "certs", "lists", "sign")
PURPOSES = ("call", "serve", "sign", "stamp")
PURPOSES_OR_ANY = ("any", "call", "serve", "sign", "stamp")
REASONS = ("ceased", "changed", "head", "hold", "key", "replaced", "rights")
SCOPE_KINDS = ("all", "heads", "users")
STATES = ("may", "must", "no")
# The order is that in which they are looked at, not that of strings.
BAR_REASONS = ("issuer", "key", "seal", "time", "withdrawn", "unknown", "odd", "name", "purpose", "policy", "head",
               "uses", "depth", "use", "wanted", "policies")
