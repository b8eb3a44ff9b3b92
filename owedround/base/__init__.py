"""What everything else stands on: words, webs and rings."""
