package hand

import (
	"math"
	"math/rand/v2"
	"slices"
	"testing"

	"portage/api"
	"portage/params"
)

// A play is an end, the second reading, and what may come to them.
type play struct {
	t    *testing.T
	r    *rand.Rand
	h    *Hand
	m    *reading
	text [2][]byte // what the other end would send
	say  string
}

func someTerms(r *rand.Rand) api.Params {
	p := params.Default()
	for _, f := range []func(){
		func() { p.Idle = r.Int64N(api.MaxSpan + 1) },
		func() { p.Data = r.Int64N(api.MaxWindow + 1) },
		func() { p.StreamOwn = r.Int64N(70) },
		func() { p.StreamUni = r.Int64N(20000) },
		func() { p.Bidi = r.Int64N(33) },
		func() { p.AckExp = r.IntN(21) },
		func() { p.AckDelay = r.Int64N(16383001) },
	} {
		if r.IntN(3) == 0 {
			f()
		}
	}
	if r.IntN(10) == 0 {
		return utmost
	}
	return p
}

// someMessage is a message in a form that may be, of terms with others that nobody knows; now and then something is wrong with it.
func someMessage(r *rand.Rand, kind byte) []byte {
	var body []byte
	if kind == hello || kind == terms {
		body, _ = params.Encode(someTerms(r))
		if r.IntN(6) == 0 {
			body = append(body, []byte(long(3+r.IntN(398-len(body))))...)
		}
		if r.IntN(12) == 0 {
			body = append(body, 0xff)
		}
	}
	widths := []int{1, 2, 4, 8}
	if len(body) > 63 {
		widths = widths[1:]
	}
	size := len(body)
	if r.IntN(20) == 0 {
		size = r.IntN(64)
	}
	m := []byte(message(kind, widths[r.IntN(len(widths))], size, string(body)))
	if r.IntN(20) == 0 {
		m[r.IntN(min(len(m), 4))] = byte(r.IntN(256))
	}
	return m
}

func newPlay(t *testing.T, r *rand.Rand) *play {
	role, own := r.IntN(2), someTerms(r)
	p := &play{t: t, r: r, h: made(t, role, own), m: newReading(role, own)}
	kinds := [2][]byte{{answer}, {terms, done}}
	if role == api.Server {
		kinds = [2][]byte{{hello}, {done}}
	}
	for space, l := range kinds {
		for _, kind := range l {
			p.text[space] = append(p.text[space], someMessage(r, kind)...)
		}
		if r.IntN(4) == 0 {
			for range 1 + r.IntN(5) {
				p.text[space] = append(p.text[space], byte(r.IntN(6)))
			}
		}
		if r.IntN(8) == 0 {
			p.text[space] = append(p.text[space], make([]byte, r.IntN(5000))...)
		}
	}
	return p
}

func (p *play) space() int {
	if p.r.IntN(25) == 0 {
		return elsewhere[p.r.IntN(len(elsewhere))]
	}
	return p.r.IntN(2)
}

func (p *play) wild(like int64) int64 {
	if p.r.IntN(15) > 0 {
		return p.r.Int64N(like+4) - 2
	}
	l := []int64{math.MinInt64, math.MinInt64 + 1, -4096, 4090, 4095, 4096, 4097, 4200, api.MaxNumber, api.MaxNumber + 1, math.MaxInt64 - 1, math.MaxInt64}
	return l[p.r.IntN(len(l))]
}

// comes hands in a piece of what the other end would send, now and then one that it wouldn't.
func (p *play) comes() {
	space := p.space()
	f := api.Frame{Kind: api.KCrypto}
	if space == 0 || space == 1 {
		text := p.text[space]
		from := p.r.IntN(len(text) + 1)
		if p.r.IntN(3) == 0 {
			from = int(p.m.upTo[space])
		}
		from = min(from, len(text))
		f.Offset = int64(from)
		f.Data = slices.Clone(text[from:min(len(text), from+p.r.IntN(12))])
		if p.r.IntN(4) == 0 {
			f.Data = slices.Clone(text[from:])
		}
	}
	switch p.r.IntN(30) {
	case 0:
		f.Offset = p.wild(20)
	case 1:
		f.Kind = p.r.IntN(32)
	case 2:
		for i := range f.Data {
			f.Data[i] = byte(p.r.IntN(5))
		}
	case 3:
		f.Offset, f.Data = 4090+p.r.Int64N(60), make([]byte, p.r.IntN(20))
	}
	got, want := p.h.Take(space, f), p.m.take(space, f)
	if got != want {
		p.t.Fatalf("%s: Take(%d, %+v) = %#x, want %#x", p.say, space, f, got, want)
	}
}

func (p *play) goes() {
	space, room := p.space(), p.r.IntN(20)
	if p.r.IntN(5) == 0 {
		room = []int{1200, math.MaxInt, math.MinInt, 5, 6, -1}[p.r.IntN(6)]
	}
	f, ok := p.h.Next(space, room)
	off, data, want := p.m.next(space, room)
	kind := api.KCrypto
	if !want {
		kind = 0
	}
	if ok != want || f.Offset != off || !slices.Equal(f.Data, data) || f.Kind != kind || f.Size != 0 {
		p.t.Fatalf("%s: Next(%d, %d) = %+v, %v, want %q at %d, %v", p.say, space, room, f, ok, data, off, want)
	}
}

func (p *play) becomes() {
	space, f := p.space(), kept(p.wild(60), p.wild(20))
	if p.r.IntN(20) == 0 {
		f.Kind = p.r.IntN(32)
	}
	if p.r.IntN(2) == 0 {
		p.h.Acked(space, f)
		p.m.became(space, f, wasAcked)
		return
	}
	p.h.Lost(space, f)
	p.m.became(space, f, wasLost)
}

func (p *play) drops() {
	if p.r.IntN(15) == 0 {
		space := p.space()
		p.h.Drop(space)
		p.m.drop(space)
	}
}

// compare holds all that may be asked against the second reading.
func (p *play) compare() {
	for _, space := range append([]int{api.Initial, api.Handshake}, elsewhere...) {
		if p.h.Open(space) != p.m.open(space) || p.h.Waits(space) != p.m.waits(space) {
			p.t.Fatalf("%s: space %d: open %v, waits %v, want %v, %v", p.say, space, p.h.Open(space), p.h.Waits(space), p.m.open(space), p.m.waits(space))
		}
	}
	peer, known := p.h.Peer()
	if peer != p.m.peer || known != p.m.hasPeer || p.h.Complete() != p.m.kinds[4] {
		p.t.Fatalf("%s: Peer %+v, %v, want %+v; Complete %v", p.say, peer, known, p.m.peer, p.h.Complete())
	}
	held := p.h.Held()
	if held != p.m.held() || held > 2*api.MaxCrypto+1000 {
		p.t.Fatalf("%s: Held %d, want %d", p.say, held, p.m.held())
	}
}

// Calls of all kinds, in whatever order: all answers are those of the second reading.
func TestSecondReading(t *testing.T) {
	ends := [4]int{}
	for seed := range uint64(4000) {
		p := newPlay(t, rand.New(rand.NewPCG(seed, 19)))
		for range 40 {
			switch n := p.r.IntN(10); {
			case n < 5:
				p.say = "take"
				p.comes()
			case n < 7:
				p.say = "next"
				p.goes()
			case n < 9:
				p.say = "became"
				p.becomes()
			default:
				p.say = "drop"
				p.drops()
			}
			p.compare()
		}
		if p.m.kinds[4] {
			ends[p.m.role]++
		}
		if p.m.hasPeer {
			ends[2+p.m.role]++
		}
	}
	for i, n := range ends {
		if n < 400 {
			t.Errorf("the plays say little: %v (%d)", ends, i)
		}
	}
}
