package hand

import (
	"math/rand/v2"
	"testing"

	"portage/api"
)

// A piece on the way to an end.
type onWay struct {
	to, space int
	f         api.Frame
}

// A road between a client and a server, on which pieces stay till they have come or are lost.
type road struct {
	t    *testing.T
	r    *rand.Rand
	ends [2]*Hand
	own  [2]api.Params
	way  []onWay
}

func newRoad(t *testing.T, r *rand.Rand) *road {
	w := &road{t: t, r: r, own: [2]api.Params{someTerms(r), someTerms(r)}}
	for role := range w.ends {
		w.ends[role] = made(t, role, w.own[role])
	}
	return w
}

// tell lets an end tell a piece, if it has one.
func (w *road) tell(role, space, room int) {
	if f, ok := w.ends[role].Next(space, room); ok {
		w.way = append(w.way, onWay{to: 1 - role, space: space, f: f})
	}
}

// hand hands bytes of a piece on.
func (w *road) hand(p onWay, from, to int) {
	f := crypto(p.f.Offset+int64(from), string(p.f.Data[from:to]))
	if code := w.ends[p.to].Take(p.space, f); code != api.CodeNone {
		w.t.Fatalf("H6: the end %d: %#x to %+v in %d", p.to, code, f, p.space)
	}
	w.look()
}

// handOn hands a piece on, whole or cut otherwise, in any order.
func (w *road) handOn(p onWay) {
	n := len(p.f.Data)
	switch at := w.r.IntN(n + 1); w.r.IntN(4) {
	case 0:
		w.hand(p, at, n)
		w.hand(p, 0, at)
	case 1:
		w.hand(p, 0, at)
		w.hand(p, max(at-2, 0), n)
	case 2:
		for _, i := range w.r.Perm(n) {
			w.hand(p, i, i+1)
		}
	default:
		w.hand(p, 0, n)
	}
}

// step lets something befall a piece: it comes, comes and stays, comes and counts as lost, or is lost. What comes to a space that isn't open wasn't taken, and can only be lost.
func (w *road) step(kind bool) {
	if len(w.way) == 0 {
		return
	}
	i := w.r.IntN(len(w.way))
	p := w.way[i]
	from := w.ends[1-p.to]
	k := kept(p.f.Offset, int64(len(p.f.Data)))
	fate := w.r.IntN(6)
	if kind {
		fate = 0
	}
	open := w.ends[p.to].Open(p.space)
	if fate != 1 {
		w.handOn(p)
	}
	if fate == 2 {
		return
	}
	w.way = append(w.way[:i], w.way[i+1:]...)
	if fate == 1 || fate == 3 || !open {
		from.Lost(p.space, k)
		return
	}
	if fate == 4 {
		from.Lost(p.space, k)
	}
	from.Acked(p.space, k)
	if fate == 5 {
		from.Lost(p.space, k)
	}
}

// look holds both ends to what is so at every moment.
func (w *road) look() {
	for role, h := range w.ends {
		peer, known := h.Peer()
		if known && peer != w.own[1-role] {
			w.t.Fatalf("H6: the end %d has terms that aren't the other's: %+v", role, peer)
		}
		if h.Complete() && !known {
			w.t.Fatalf("H6: the end %d is complete ahead of the other's terms", role)
		}
		if h.Held() > 2*api.MaxCrypto+1000 {
			w.t.Fatalf("H7: the end %d holds %d", role, h.Held())
		}
	}
	if w.ends[api.Server].Complete() && !w.ends[api.Client].Complete() {
		w.t.Fatal("H6: the server is complete ahead of the client")
	}
}

func (w *road) waits() bool {
	for _, h := range w.ends {
		if h.Waits(api.Initial) || h.Waits(api.Handshake) {
			return true
		}
	}
	return len(w.way) > 0
}

// calm holds of both ends when nothing waits and all was taken.
func (w *road) calm() {
	for role, h := range w.ends {
		peer, known := h.Peer()
		if !h.Complete() || !known || peer != w.own[1-role] || h.Held() != 0 {
			w.t.Fatalf("H6: the end %d: complete %v, terms %+v, %v, held %d", role, h.Complete(), peer, known, h.Held())
		}
	}
}

// H6: whatever becomes of the pieces, both ends come to be complete, with each other's terms.
func TestBothComplete(t *testing.T) {
	for seed := range uint64(3000) {
		w := newRoad(t, rand.New(rand.NewPCG(seed, 6)))
		rough := w.r.IntN(80)
		for i := 0; w.waits(); i++ {
			if i > 5000 {
				t.Fatal("H6: it doesn't come to rest")
			}
			if w.r.IntN(2) == 0 {
				w.tell(w.r.IntN(2), w.r.IntN(2), 6+w.r.IntN(70))
			} else {
				w.step(i > rough)
			}
		}
		w.calm()
	}
}

// H6: the plain way, stream by stream, with each room.
func TestPlainWay(t *testing.T) {
	for room := 6; room < 70; room++ {
		w := newRoad(t, rand.New(rand.NewPCG(uint64(room), 7)))
		for _, x := range [][2]int{{api.Client, api.Initial}, {api.Server, api.Initial}, {api.Server, api.Handshake}, {api.Client, api.Handshake}} {
			role, space := x[0], x[1]
			for w.ends[role].Waits(space) {
				w.tell(role, space, room)
				p := w.way[0]
				w.hand(p, 0, len(p.f.Data))
				w.ends[role].Acked(space, kept(p.f.Offset, int64(len(p.f.Data))))
				w.way = nil
			}
		}
		w.calm()
	}
}
