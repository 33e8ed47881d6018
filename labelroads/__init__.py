"""Labelroads: parcels with stacks of labels, for all stacks and all failures."""
