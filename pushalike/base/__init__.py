"""What everything else is made of: letters, names, layouts, events and outputs."""
