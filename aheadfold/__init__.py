"""Aheadfold: webs whose endless walks a reader turns into one another, looking ahead alone."""
