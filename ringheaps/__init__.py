"""Ringheaps: tokens on one-way roads that may lead round."""
