package loss

import "portage/api"

// Events tells what has happened since it was asked last (P14.10).
func (l *Loss) Events() []api.Event {
	told := l.events
	// The list is the caller's from now on.
	l.events = nil
	return told
}

// tell keeps an event, of the time that it is now, till it is asked for.
func (l *Loss) tell(e api.Event) {
	e.Time = l.clock
	l.events = append(l.events, e)
	if len(l.events) > api.MaxEvents {
		l.events = l.events[1:]
	}
}

// tellWindow tells of the window, if it isn't as it was ahead of the call (P14.9).
func (l *Loss) tellWindow(was api.Window) {
	is := l.ctl.View()
	if is.Size != was.Size || is.Threshold != was.Threshold {
		l.tell(api.Event{Kind: api.EvWindow, A: is.Size, B: is.Threshold})
	}
}
