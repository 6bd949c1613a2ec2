"""The plain reading of rules: which of them are looked at, and which are looked into."""


def steps(rules, case):
    """Return the list of all rules whose conditions are looked at, in order.

    Each is a tuple of the rule and whether the case meets it.
    """
    looked = []
    while rules:
        looked.extend(up_to_first_met(rules, case))
        rule, met = looked[-1]
        rules = rule.exceptions if met else ()
    return looked


def up_to_first_met(rules, case):
    """Return the rules beside each other that are looked at, likewise."""
    looked = []
    for rule in rules:
        condition = rule.condition
        met = condition(case)
        looked.append((rule, met))
        if met:
            break
    return looked


def looked_into(rules, case):
    """Return the list of all rules that are looked into, the outermost first."""
    return [rule for rule, met in steps(rules, case) if met]
