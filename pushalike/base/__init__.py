"""What everything else is made of: letters, names, layouts, events, outputs and tapes."""
