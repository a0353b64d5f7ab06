package world

import "portage/api"

// Kinds of acts.
const (
	kindOpen = 1 + iota
	kindAccept
	kindWrite
	kindFin
	kindRead
	kindReset
	kindStop
	kindRank
	kindClose
	kindTick
	kindRun
	kindLose
	kindDelay
	kindDouble
	kindMark
	kindInject
	kindClear

	kindFirst = kindOpen
)

// mostUrgency is the greatest one that an end is asked for: one more than there is.
const mostUrgency = 8

// A play does what an act of one kind says.
type play func(w *World, a api.Act) api.Reply

// plays is what does an act, by its kind.
func plays() []play {
	return []play{
		kindOpen:   ofEnd((*World).open),
		kindAccept: ofEnd((*World).accept),
		kindWrite:  ofEnd((*World).write),
		kindFin:    ofEnd((*World).fin),
		kindRead:   ofEnd((*World).read),
		kindReset:  ofEnd((*World).reset),
		kindStop:   ofEnd((*World).stop),
		kindRank:   ofEnd((*World).rank),
		kindClose:  ofEnd((*World).close),
		kindTick:   ofSpan((*World).tick),
		kindRun:    ofEnd((*World).run),
		kindLose:   ofGram((*World).lose),
		kindDelay:  ofGram((*World).delay),
		kindDouble: ofGram((*World).double),
		kindMark:   ofGram((*World).mark),
		kindInject: ofEnd((*World).inject),
		kindClear:  ofSpan((*World).clear),
	}
}

// reply is one that tells nothing but an error, or that there is none.
func reply(err api.Errno) api.Reply { return api.Reply{Err: err} }

// ofEnd is the play of an act in which End counts.
func ofEnd(do play) play {
	return func(w *World, a api.Act) api.Reply {
		if !isEnd(a.End) {
			return reply(api.ErrArg)
		}
		return do(w, a)
	}
}

// ofSpan is the play of an act in which N is a span of time.
func ofSpan(do play) play {
	return func(w *World, a api.Act) api.Reply {
		if !isSpan(a.N) {
			return reply(api.ErrArg)
		}
		return do(w, a)
	}
}

// ofGram is the play of an act that befalls a datagram, of this number.
func ofGram(do func(w *World, id int, a api.Act) api.Errno) play {
	return func(w *World, a api.Act) api.Reply {
		id, is := w.pick(a.Stream)
		if !is {
			return reply(api.ErrRoadNone)
		}
		return reply(do(w, id, a))
	}
}

func isSpan(n int64) bool { return n >= 0 && n <= api.MaxSpan }

func (w *World) open(a api.Act) api.Reply {
	id, err := w.ends[a.End].Open(a.Uni)
	return api.Reply{N: id, Err: err}
}

func (w *World) accept(a api.Act) api.Reply {
	id, err := w.ends[a.End].Accept()
	return api.Reply{N: id, Err: err}
}

func (w *World) write(a api.Act) api.Reply {
	return reply(w.ends[a.End].Write(a.Stream, a.Data))
}

func (w *World) fin(a api.Act) api.Reply {
	return reply(w.ends[a.End].Fin(a.Stream))
}

func (w *World) read(a api.Act) api.Reply {
	b, end, err := w.take(a.End, a.Stream, int(min(max(a.N, 0), api.MaxBuffer)))
	return api.Reply{Data: b, Fin: end, Err: err}
}

func (w *World) reset(a api.Act) api.Reply {
	return reply(w.ends[a.End].Reset(a.Stream, a.N))
}

func (w *World) stop(a api.Act) api.Reply {
	return reply(w.ends[a.End].Stop(a.Stream, a.N))
}

func (w *World) rank(a api.Act) api.Reply {
	return reply(w.ends[a.End].Rank(a.Stream, int(min(max(a.N, -1), mostUrgency))))
}

func (w *World) close(a api.Act) api.Reply {
	return reply(w.ends[a.End].Close(w.now, a.N, a.Data))
}

func (w *World) tick(a api.Act) api.Reply {
	w.goOn(a.N)
	return reply(api.OK)
}

func (w *World) run(a api.Act) api.Reply {
	return api.Reply{N: w.runs(a.End, func(int) {})}
}

func (w *World) inject(a api.Act) api.Reply {
	if len(a.Data) > api.MaxMTU {
		return reply(api.ErrLong)
	}
	w.ends[a.End].Receive(w.now, a.Data, api.Unmarked)
	return reply(api.OK)
}
