package world

import "portage/api"

// taken is what was read of a stream at an end; end: it was told that there is no more.
type taken struct {
	bytes []byte
	end   bool
}

// take reads from a stream, and keeps what it got.
func (w *World) take(role int, id int64, most int) ([]byte, bool, api.Errno) {
	b, end, err := w.ends[role].Read(id, most)
	if len(b) > 0 || end {
		t := w.took[role][id]
		w.took[role][id] = taken{append(t.bytes, b...), t.end || end}
	}
	return b, end, err
}

// drain has an end's application accept and read all that there is.
func (w *World) drain(role int) {
	e := w.ends[role]
	for _, err := e.Accept(); err == api.OK; _, err = e.Accept() {
	}
	for _, id := range e.Streams() {
		for b, _, _ := w.take(role, id, api.MaxBuffer); len(b) > 0; b, _, _ = w.take(role, id, api.MaxBuffer) {
		}
	}
}
