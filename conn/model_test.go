package conn

import (
	"fmt"
	"math"
	"math/rand/v2"
	"reflect"
	"slices"
	"strconv"
	"testing"

	"portage/api"
	"portage/frame"
	"portage/packet"
	"portage/params"
	"portage/streams"
)

// A pair is an end and its second reading: whatever one is asked the other is asked, too.
type pair struct {
	t    *testing.T
	c    *Conn
	m    *reading
	log  *[]string // what was done, in order
	most int       // bytes that are written at once
}

func (p *pair) say(format string, a ...any) {
	*p.log = append(*p.log, strconv.Itoa(p.m.role)+": "+fmt.Sprintf(format, a...))
}

// fails stops the play, with the last of what was done.
func (p *pair) fails(got, want any) {
	p.t.Helper()
	l := *p.log
	if len(l) > 12 {
		l = l[len(l)-12:]
	}
	p.t.Fatalf("%q:\n got %+v\nwant %+v", l, got, want)
}

func (p *pair) same(got, want any) {
	p.t.Helper()
	if !reflect.DeepEqual(got, want) {
		p.fails(got, want)
	}
}

// bare makes nothing of an empty list.
func bare(v api.ConnView) api.ConnView {
	if len(v.There) == 0 {
		v.There = nil
	}
	if len(v.Reason) == 0 {
		v.Reason = nil
	}
	return v
}

// compare holds all that may be asked without a change against the second reading.
func (p *pair) compare() {
	p.t.Helper()
	p.same(bare(p.c.View()), bare(p.m.view()))
	p.same(p.c.Deadline(), p.m.deadline())
	p.same(p.c.Events(), p.m.loss.Events())
	p.same(p.c.Streams(), p.m.streams.IDs())
	for _, id := range p.c.Streams() {
		got, err := p.c.Stream(id)
		want, _ := p.m.streams.View(id)
		p.same(err, api.OK)
		p.same(got, want)
	}
}

func (p *pair) receive(now int64, b []byte, mark int) {
	p.t.Helper()
	p.say("Receive(%d, %x, %d)", now, b[:min(len(b), 60)], mark)
	p.c.Receive(now, b, mark)
	p.m.receive(now, b, mark)
	p.compare()
}

func (p *pair) send(now int64) ([]byte, int, bool) {
	p.t.Helper()
	p.say("Send(%d)", now)
	b, mark, ok := p.c.Send(now)
	wantB, wantMark, want := p.m.send(now)
	p.same([]any{slices.Clip(b), mark, ok}, []any{wantB, wantMark, want})
	p.compare()
	return b, mark, ok
}

func (p *pair) timeout(now int64) {
	p.t.Helper()
	p.say("Timeout(%d)", now)
	p.c.Timeout(now)
	p.m.timeout(now)
	p.compare()
}

func (p *pair) close(now, code int64, reason []byte) {
	p.t.Helper()
	p.say("Close(%d, %d, %d bytes)", now, code, len(reason))
	p.same(p.c.Close(now, code, reason), p.m.close(now, code, reason))
	p.compare()
}

// uses asks one of the application's calls.
func (p *pair) uses(r *rand.Rand) {
	p.t.Helper()
	id := r.Int64N(12)
	if l := p.c.Streams(); len(l) > 0 && r.IntN(4) > 0 {
		id = l[r.IntN(len(l))]
	}
	n := r.Int64N(9) - 1
	p.say("use %d, %d", id, n)
	switch r.IntN(12) {
	case 0, 1:
		uni := r.IntN(2) == 0
		got, err := p.c.Open(uni)
		want, wantErr := p.m.openStream(uni)
		p.same([]any{got, err}, []any{want, wantErr})
	case 2:
		got, err := p.c.Accept()
		want, wantErr := p.m.accept()
		p.same([]any{got, err}, []any{want, wantErr})
	case 3, 4, 5:
		text := make([]byte, r.IntN(p.most))
		for i := range text {
			text[i] = byte(r.Uint32())
		}
		p.same(p.c.Write(id, text), p.m.use(func(s *streams.Streams) api.Errno { return s.Write(id, text) }))
	case 6:
		p.same(p.c.Fin(id), p.m.use(func(s *streams.Streams) api.Errno { return s.Fin(id) }))
	case 7:
		p.same(p.c.Rank(id, int(n)), p.m.use(func(s *streams.Streams) api.Errno { return s.Rank(id, int(n)) }))
	case 8:
		if r.IntN(4) == 0 {
			p.same(p.c.Reset(id, n), p.m.use(func(s *streams.Streams) api.Errno { return s.Reset(id, n) }))
		} else if r.IntN(3) == 0 {
			p.same(p.c.Stop(id, n), p.m.use(func(s *streams.Streams) api.Errno { return s.Stop(id, n) }))
		}
	default:
		most := r.IntN(4000) - 1
		got, end, err := p.c.Read(id, most)
		want, wantEnd, wantErr := p.m.streams.Read(id, most)
		p.same([]any{string(got), end, err}, []any{string(want), wantEnd, wantErr})
	}
	p.compare()
}

// A gram is a datagram under way.
type gram struct {
	to   int
	at   int64
	b    []byte
	mark int
}

// A play is two ends, their second readings, and what is under way between them.
type play struct {
	r     *rand.Rand
	ends  [2]*pair
	now   int64
	span  int64
	road  []gram
	wild  int // of a thousand steps so many hand in what no end says
	loose int // of a thousand datagrams so many are lost
}

func oneOf[T any](r *rand.Rand, l ...T) T { return l[r.IntN(len(l))] }

func someID(r *rand.Rand) []byte {
	b := make([]byte, oneOf(r, 1, 1, 2, 8, 20))
	for i := range b {
		b[i] = byte(r.IntN(256))
	}
	return b
}

func someConfig(r *rand.Rand, role int) api.Config {
	c := config(role)
	c.MTU = oneOf(r, 1200, 1200, 1201, 1500, 2000, 9000)
	c.Capacity = oneOf(r, 1, 100, 5000, 16384, 65536)
	c.InitialRTT = oneOf[int64](r, 1, 1000, 100000, 333000)
	c.Granularity = oneOf[int64](r, 1, 1000, 10000)
	c.MaxPTO = max(c.Granularity, oneOf[int64](r, 10000, 100000, 1000000, api.MaxSpan))
	c.Cubic = r.IntN(2) == 0
	c.Pace = r.IntN(2) == 0
	c.Marks = r.IntN(2) == 0
	c.Burst = oneOf(r, 2*int64(c.MTU), 12000, 100000)
	c.Burst = max(c.Burst, 2*int64(c.MTU))
	c.Idle = oneOf[int64](r, 0, 0, 0, 1, 400000, 5000000)
	c.Data = oneOf[int64](r, 0, 300, 20000, 65536)
	c.StreamOwn, c.StreamHis, c.StreamUni = oneOf[int64](r, 0, 50, 20000), oneOf[int64](r, 3, 20000), oneOf[int64](r, 1000, 20000)
	c.Bidi, c.Uni = r.Int64N(5), r.Int64N(5)
	c.AckExp = r.IntN(21)
	c.AckDelay = oneOf[int64](r, 0, 100, 25000, 400000)
	for i := range c.First {
		c.First[i] = oneOf(r, 0, 1, 300, mostFirst, r.Int64N(mostFirst))
	}
	c.ID = someID(r)
	if role == api.Client {
		c.To = someID(r)
	}
	return c
}

// busyConfig is one of an end that has much to send, and a pacer.
func busyConfig(r *rand.Rand, role int) api.Config {
	c := someConfig(r, role)
	c.Pace, c.Idle, c.Capacity, c.Burst = true, 0, 65536, oneOf(r, 2*int64(c.MTU), 3*int64(c.MTU)+1)
	c.Data, c.StreamOwn, c.StreamHis, c.StreamUni, c.Bidi, c.Uni = 1<<20, 1<<20, 1<<20, 1<<20, 4, 4
	c.InitialRTT, c.AckDelay = oneOf[int64](r, 1000, 30000), oneOf[int64](r, 100, 5000)
	c.MaxPTO = max(c.MaxPTO, c.Granularity, oneOf[int64](r, 20000, 500000))
	return c
}

func newPlay(t *testing.T, r *rand.Rand, some func(*rand.Rand, int) api.Config) *play {
	p := &play{r: r, now: oneOf(r, 0, 0, 5, r.Int64N(1<<30)), span: oneOf[int64](r, 0, 10, 1000, 30000, 200000), loose: oneOf(r, 0, 30, 200, 600)}
	log := []string{}
	for role := range p.ends {
		c := some(r, role)
		e, err := New(c, role, p.now)
		if err != api.OK {
			t.Fatalf("C1: New(%+v, %d) = %d", c, role, err)
		}
		p.ends[role] = &pair{t, e, newReading(c, role, p.now), &log, 2500}
		p.ends[role].compare()
	}
	return p
}

// time is the time that it is, now and then one that it isn't.
func (p *play) time() int64 {
	switch p.r.IntN(400) {
	case 0:
		return p.now - p.r.Int64N(1000)
	case 1:
		return -p.r.Int64()
	case 2:
		if p.wild > 0 && p.r.IntN(20) == 0 {
			return math.MaxInt64
		}
	}
	return p.now
}

// goes asks an end for all that it has to send.
func (p *play) goes(from int) {
	for range 40 {
		b, mark, ok := p.ends[from].send(p.time())
		if !ok {
			return
		}
		if p.r.IntN(1000) < p.loose {
			continue
		}
		for range 1 + p.r.IntN(20)/19 {
			at := p.now + p.span
			if p.r.IntN(6) == 0 {
				at += p.r.Int64N(p.span + 1)
			}
			if mark == api.Capable && p.r.IntN(30) == 0 {
				mark = api.Marked
			}
			p.road = append(p.road, gram{1 - from, at, b, mark})
		}
	}
}

// goOn lets time go on, to where something is due or at random.
func (p *play) goOn() {
	at := int64(api.Never)
	for _, e := range p.ends {
		if d := e.c.Deadline(); d > p.now {
			at = min(at, d)
		}
	}
	for _, g := range p.road {
		at = min(at, max(g.at, p.now))
	}
	if p.r.IntN(8) == 0 {
		at = p.now + p.r.Int64N(2*p.span+50)
	}
	if at < api.MaxTime {
		p.now = at
	}
	for i := 0; i < len(p.road); {
		if g := p.road[i]; g.at <= p.now {
			p.road = slices.Delete(p.road, i, i+1)
			p.ends[g.to].receive(p.time(), g.b, g.mark)
		} else {
			i++
		}
	}
	for _, e := range p.ends {
		for i := 0; i < 4 && e.c.Deadline() <= p.now; i++ {
			e.timeout(p.time())
		}
	}
}

// someFrame is a frame as the other end might tell it; now and then as it wouldn't.
func (p *play) someFrame(to, space int) api.Frame {
	r := p.r
	text := make([]byte, r.IntN(20))
	id, n := r.Int64N(24), r.Int64N(400)
	if l := p.ends[to].c.Streams(); len(l) > 0 && r.IntN(2) == 0 {
		id = l[r.IntN(len(l))]
	}
	kinds := []int{api.KPing, api.KAck, api.KAck, api.KCrypto, api.KPadding}
	if space == api.App || r.IntN(40) == 0 {
		kinds = append(kinds, api.KReset, api.KStop, api.KStream, api.KStream, api.KStream, api.KMaxData, api.KMaxStreamData, api.KMaxStreams,
			api.KDataBlocked, api.KStreamDataBlocked, api.KStreamsBlocked, api.KChallenge, api.KChallenge, api.KResponse, api.KDone)
	}
	if r.IntN(15) == 0 {
		kinds = []int{api.KClose}
	}
	f := api.Frame{Kind: oneOf(r, kinds...)}
	switch f.Kind {
	case api.KPadding:
		f.Size = 1 + r.Int64N(40)
	case api.KAck:
		v := p.ends[to].c.View().Recovery.Spaces[space]
		hi := v.Next - 1 - r.Int64N(6)
		if r.IntN(12) == 0 {
			hi += 8
		}
		f.Runs = []api.Run{{Lo: max(hi-r.Int64N(3), 0), Hi: max(hi, 0)}}
		f.Delay = r.Int64N(9000)
		if r.IntN(3) == 0 {
			f.Marks, f.Counts = true, [3]int64{r.Int64N(4), 0, r.Int64N(4)}
		}
	case api.KReset:
		f.Stream, f.Code, f.Size = id, n, r.Int64N(400)
	case api.KStop:
		f.Stream, f.Code = id, n
	case api.KCrypto:
		f.Data = p.someCrypto(to, space)
		f.Offset = r.Int64N(int64(len(f.Data)) + 1)
		f.Data = f.Data[f.Offset:]
		if r.IntN(20) == 0 {
			f.Offset += r.Int64N(5000)
		}
	case api.KStream:
		f.Stream, f.Offset, f.Data, f.Fin = id, n, text, r.IntN(4) == 0
	case api.KMaxData, api.KDataBlocked:
		f.Limit = r.Int64N(40000)
	case api.KMaxStreamData, api.KStreamDataBlocked:
		f.Stream, f.Limit = id, r.Int64N(40000)
	case api.KMaxStreams, api.KStreamsBlocked:
		f.Uni, f.Limit = r.IntN(2) == 0, r.Int64N(9)
	case api.KChallenge, api.KResponse:
		f.Data = []byte(strconv.Itoa(10000000 + r.IntN(1000000)))
	case api.KClose:
		f.Code, f.Data, f.Size = n, text, 6
		if f.Own = r.IntN(2) == 0; f.Own {
			f.Size = 0
		}
	}
	return f
}

// someCrypto is what stands in the other end's stream of a space, more or less.
func (p *play) someCrypto(to, space int) []byte {
	terms, _ := params.Encode(p.ends[1-to].m.c.Params)
	body := append([]byte{byte(len(terms))}, terms...)
	if len(terms) > 63 {
		body = append([]byte{0x40, byte(len(terms))}, terms...)
	}
	b := []byte{2, 0}
	switch {
	case to == api.Server && space == api.Initial:
		b = append([]byte{1}, body...)
	case to == api.Server:
		b = []byte{4, 0}
	case space == api.Handshake:
		b = append(append([]byte{3}, body...), 4, 0)
	}
	if p.r.IntN(20) == 0 {
		b[p.r.IntN(len(b))] ^= byte(1 << p.r.IntN(8))
	}
	return b
}

// forged is a datagram for an end that looks as if the other one had sent it, more or less.
func (p *play) forged(to int) []byte {
	r := p.r
	var b []byte
	for range 1 + r.IntN(3) {
		x := api.Packet{Space: oneOf(r, 0, 1, 2, 2, 2), Dst: p.ends[to].m.c.ID, Width: 1 + r.IntN(4)}
		if x.Space != api.App {
			x.Src = p.ends[1-to].m.c.ID
		}
		if r.IntN(20) == 0 {
			x.Dst = oneOf(r, someID(r), p.ends[0].m.c.To)
		}
		if r.IntN(20) == 0 && x.Space != api.App {
			x.Src = someID(r)
		}
		x.Number = max(0, p.ends[1-to].c.View().Recovery.Spaces[x.Space].Next+r.Int64N(6)-3)
		for range r.IntN(20) {
			f, _ := frame.Encode(p.someFrame(to, x.Space))
			x.Payload = append(x.Payload, f...)
		}
		if r.IntN(40) == 0 && len(x.Payload) > 0 {
			x.Payload = x.Payload[:r.IntN(len(x.Payload))]
		}
		y, _ := packet.Encode(x)
		b = append(b, y...)
		if x.Space == api.App {
			break
		}
	}
	if r.IntN(20) == 0 && len(b) > 0 {
		b[r.IntN(len(b))] = byte(r.IntN(256))
	}
	return b
}

func (p *play) step() {
	r := p.r
	at := r.IntN(2)
	switch n := r.IntN(100); {
	case n < 35:
		p.goOn()
	case n < 70:
		p.goes(at)
	case n < 95:
		p.ends[at].uses(r)
	case n < 98:
		if len(p.road) > 0 {
			i := r.IntN(len(p.road))
			p.road[i].at += r.Int64N(5*p.span + 1)
		}
	default:
		if r.IntN(8) == 0 {
			p.ends[at].close(p.time(), r.Int64N(20)-1, make([]byte, r.IntN(102)))
		}
	}
	if r.IntN(1000) >= p.wild {
		return
	}
	if r.IntN(5) == 0 {
		junk := make([]byte, r.IntN(80))
		for i := range junk {
			junk[i] = byte(r.Uint32())
		}
		p.ends[at].receive(p.time(), junk, r.IntN(4))
		return
	}
	p.ends[at].receive(p.time(), p.forged(at), r.IntN(4))
}

// A tally is what the plays of a test went through.
type tally map[string]int

func (n tally) add(p *play) {
	for _, e := range p.ends {
		v := e.c.View()
		n["state "+strconv.Itoa(v.State)]++
		if v.State == api.StateOver && v.Code == 0 && !v.Own && !v.Told {
			n["silent"]++
		}
		if v.Told {
			n["told"]++
		}
		if v.State != api.StateLive && !v.Told && !v.Own {
			n["code "+strconv.Itoa(int(v.Code))]++
		}
		if v.Confirmed {
			n["confirmed"]++
		}
		n["pings"] += e.m.pings
		n["probes"] += e.m.probes
		n["padded"] += e.m.padded
		n["spent"] += e.m.spent
		n["limits"] += e.m.limits
		n["forgotten"] += e.m.forgotten
		if len(e.m.responses) > 0 {
			n["responses"]++
		}
	}
}

func (n tally) least(t *testing.T, least map[string]int) {
	t.Helper()
	for k, want := range least {
		if n[k] < want {
			t.Errorf("the plays say little: %s %d times: %v", k, n[k], n)
		}
	}
}

// Calls of all kinds between two ends over a bad road: all answers are those of the second reading.
func TestSecondReading(t *testing.T) {
	n := tally{}
	for seed := range uint64(600) {
		p := newPlay(t, rand.New(rand.NewPCG(seed, 21)), someConfig)
		for range 150 {
			p.step()
		}
		n.add(p)
	}
	n.least(t, map[string]int{"confirmed": 300, "state 0": 300, "silent": 100, "told": 10, "pings": 500, "probes": 500, "spent": 300, "limits": 500})
}

// The same, where much is sent, at the pacer's rate.
func TestSecondReadingBusy(t *testing.T) {
	n := tally{}
	for seed := range uint64(120) {
		p := newPlay(t, rand.New(rand.NewPCG(seed, 25)), busyConfig)
		p.loose, p.span = oneOf(p.r, 0, 0, 10, 50), oneOf[int64](p.r, 1000, 10000)
		for _, e := range p.ends {
			e.most = 20000
		}
		for range 400 {
			p.step()
		}
		n.add(p)
	}
	n.least(t, map[string]int{"confirmed": 150, "spent": 3000, "probes": 100, "limits": 100})
}

// The same, where somebody else hands in what looks like the other end's, and anything at all.
func TestSecondReadingWild(t *testing.T) {
	n := tally{}
	for seed := range uint64(3000) {
		p := newPlay(t, rand.New(rand.NewPCG(seed, 22)), someConfig)
		p.wild = oneOf(p.r, 30, 200, 700)
		for range 60 {
			p.step()
		}
		n.add(p)
	}
	n.least(t, map[string]int{"state 1": 50, "state 2": 15, "state 3": 30, "responses": 3, "code 10": 50, "code 7": 20, "code 3": 3, "code 4": 10, "code 5": 10, "code 13": 1, "code 296": 3})
	if n["code 1"] > 0 {
		t.Errorf("R1: a panic that isn't told: %v", n)
	}
}
