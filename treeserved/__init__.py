"""Treeserved: trees that serve their nodes, with a paper for each answer."""
