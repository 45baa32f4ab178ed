"""What programs of dates and times do in all time zones of a kind."""
