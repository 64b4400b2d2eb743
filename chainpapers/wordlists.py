"""The words that certificates, lists and questions choose from, each time ascending."""

USES = ("agree", "certs", "lists", "sign")
PURPOSES = ("call", "serve", "sign", "stamp")
PURPOSES_OR_ANY = ("any", "call", "serve", "sign", "stamp")
REASONS = ("ceased", "changed", "head", "hold", "key", "replaced", "rights")
SCOPE_KINDS = ("all", "heads", "users")
STATES = ("may", "must", "no")
