package streams

import (
	"portage/api"
	"portage/credit"
	"portage/frame"
)

// A word is something that waits to be told.
type word struct {
	least api.Frame                // the shortest frame that tells it
	tell  func(room int) api.Frame // tells it, with as much as the room lets
}

// asks lists what may wait, in the order of P18.11: each of these tells the first word of its number, if one waits. They are handed the open streams, rising.
func asks() []func(*Streams, []*stream) (word, bool) {
	return []func(*Streams, []*stream) (word, bool){
		(*Streams).waitingReset,
		(*Streams).waitingStop,
		(*Streams).waitingMaxData,
		(*Streams).waitingMaxStreamData,
		(*Streams).waitingMaxStreams,
		(*Streams).waitingDataBlocked,
		(*Streams).waitingStreamDataBlocked,
		(*Streams).waitingStreamsBlocked,
		(*Streams).waitingPiece,
	}
}

// Waits tells whether there is something to be sent (P18.13).
func (s *Streams) Waits() bool {
	_, is := s.due(api.MinMTU)
	return is
}

// Next tells the frame that is to be sent next, if it fits (P18.12).
func (s *Streams) Next(room int) (api.Frame, bool) {
	w, is := s.due(room)
	if !is {
		return api.Frame{}, false
	}
	return w.tell(room), true
}

// due tells the first word that waits; false: none does, or it doesn't fit.
func (s *Streams) due(room int) (word, bool) {
	l := s.rising()
	for _, ask := range asks() {
		if w, is := ask(s, l); is {
			size, _ := frame.Size(w.least)
			return w, size <= room
		}
	}
	return word{}, false
}

// rising gives the open streams, by their ids.
func (s *Streams) rising() []*stream {
	l := make([]*stream, 0, len(s.open))
	for _, id := range s.IDs() {
		l = append(l, s.open[id])
	}
	return l
}

// plain is a word of one frame, whatever the room is; told does what becomes of its being told.
func plain(f api.Frame, told func()) (word, bool) {
	tell := func(int) api.Frame {
		told()
		return f
	}
	return word{least: f, tell: tell}, true
}

func (s *Streams) waitingReset(l []*stream) (word, bool) {
	for _, st := range l {
		if p := st.sending; p != nil && p.reset.waits() {
			f := api.Frame{Kind: api.KReset, Stream: st.id, Code: p.reset.code, Size: p.out.View().Used}
			return plain(f, p.reset.told)
		}
	}
	return word{}, false
}

func (s *Streams) waitingStop(l []*stream) (word, bool) {
	for _, st := range l {
		if p := st.receiving; p != nil && p.stop.waits() && p.endless() {
			return plain(api.Frame{Kind: api.KStop, Stream: st.id, Code: p.stop.code}, p.stop.told)
		}
	}
	return word{}, false
}

func (s *Streams) waitingMaxData([]*stream) (word, bool) {
	if !s.in.Wants() {
		return word{}, false
	}
	f := api.Frame{Kind: api.KMaxData, Limit: nextLimit(s.in)}
	return plain(f, func() { s.in.Update() })
}

func (s *Streams) waitingMaxStreamData(l []*stream) (word, bool) {
	for _, st := range l {
		if p := st.receiving; p != nil && p.in.Wants() && p.endless() {
			f := api.Frame{Kind: api.KMaxStreamData, Stream: st.id, Limit: nextLimit(p.in)}
			return plain(f, func() {
				p.in.Update()
				p.part.Raise(f.Limit)
			})
		}
	}
	return word{}, false
}

// nextLimit is what Update will tell, of an In that wants: whether the frame has room is asked ahead of any change.
func nextLimit(in *credit.In) int64 {
	v := in.View()
	return v.Consumed + v.Window
}

func (s *Streams) waitingMaxStreams([]*stream) (word, bool) {
	for kind := range s.theirs {
		if t := &s.theirs[kind]; t.waits() {
			f := api.Frame{Kind: api.KMaxStreams, Uni: kind == oneWay, Limit: t.limit}
			return plain(f, func() { t.told = f.Limit })
		}
	}
	return word{}, false
}

func (s *Streams) waitingDataBlocked(l []*stream) (word, bool) {
	if !s.out.Wants() {
		return word{}, false
	}
	for _, st := range l {
		if p := st.sending; p != nil && p.unsent() {
			f := api.Frame{Kind: api.KDataBlocked, Limit: s.out.View().Limit}
			return plain(f, func() { s.out.Blocked() })
		}
	}
	return word{}, false
}

func (s *Streams) waitingStreamDataBlocked(l []*stream) (word, bool) {
	for _, st := range l {
		if p := st.sending; p != nil && p.out.Wants() && p.unsent() {
			f := api.Frame{Kind: api.KStreamDataBlocked, Stream: st.id, Limit: p.out.View().Limit}
			return plain(f, func() { p.out.Blocked() })
		}
	}
	return word{}, false
}

func (s *Streams) waitingStreamsBlocked([]*stream) (word, bool) {
	for kind := range s.ours {
		if o := &s.ours[kind]; o.waits() {
			f := api.Frame{Kind: api.KStreamsBlocked, Uni: kind == oneWay, Limit: o.limit}
			return plain(f, func() { o.told = f.Limit })
		}
	}
	return word{}, false
}
