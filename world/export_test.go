package world

import "flotilla/api"

// LeaveNote makes one that is down one whose crash has left that note: so many lives no test lives through.
func (w *World) LeaveNote(a int, note api.Note) { w.seats[a].left = note }
