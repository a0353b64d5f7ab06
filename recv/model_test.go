package recv

import (
	"fmt"
	"maps"
	"math"
	"math/rand/v2"
	"slices"
	"strings"
	"testing"

	"portage/api"
)

// A reading is a second reading of the chapter's words: offset by offset, which byte came first, and which ones are held.
type reading struct {
	limit, read, high, final int64
	first                    map[int64]byte
	held                     map[int64]bool
	ended, reset             bool
}

func newReading(limit int64) *reading {
	return &reading{limit: limit, final: -1, first: map[int64]byte{}, held: map[int64]bool{}}
}

func (m *reading) take(off int64, data []byte, fin bool) (int64, api.Errno) {
	end := off
	for range data {
		if end > api.MaxNumber {
			break
		}
		end++
	}
	switch known := m.final != -1; {
	case off < 0, end > api.MaxNumber:
		return 0, api.ErrArg
	case end > m.limit:
		return 0, api.ErrRecvLimit
	case known && end > m.final, known && fin && end != m.final, fin && end < m.high:
		return 0, api.ErrRecvFinal
	}
	if fin {
		m.final = end
	}
	for i, b := range data {
		x := off + int64(i)
		if _, is := m.first[x]; is || m.reset {
			continue
		}
		m.first[x], m.held[x] = b, true
	}
	return m.rise(end), api.OK
}

func (m *reading) rise(end int64) int64 {
	if end <= m.high {
		return 0
	}
	by := end - m.high
	m.high = end
	return by
}

func (m *reading) readOn(most int) ([]byte, bool) {
	if m.reset {
		return nil, false
	}
	var data []byte
	for m.held[m.read] && len(data) < most {
		data = append(data, m.first[m.read])
		delete(m.held, m.read)
		m.read++
	}
	if m.final != -1 && m.read == m.final {
		m.ended = true
		return data, true
	}
	return data, false
}

func (m *reading) raise(limit int64) {
	if limit > api.MaxNumber {
		limit = api.MaxNumber
	}
	if limit > m.limit {
		m.limit = limit
	}
}

func (m *reading) resetAt(final int64) (int64, api.Errno) {
	switch {
	case final < 0, final > api.MaxNumber:
		return 0, api.ErrArg
	case final > m.limit:
		return 0, api.ErrRecvLimit
	case m.final != -1 && m.final != final, final < m.high:
		return 0, api.ErrRecvFinal
	}
	m.final = final
	if !m.ended {
		m.reset = true
		clear(m.held)
	}
	return m.rise(final), api.OK
}

func (m *reading) view() api.RecvView {
	v := api.RecvView{Limit: m.limit, Read: m.read, High: m.high, Final: m.final, Held: int64(len(m.held)), Ended: m.ended, Reset: m.reset}
	offsets := slices.Collect(maps.Keys(m.held))
	for x := range m.read {
		offsets = append(offsets, x)
	}
	slices.Sort(offsets)
	for i, x := range offsets {
		if i == 0 || offsets[i-1] != x-1 {
			v.Runs = append(v.Runs, api.Run{Lo: x})
		}
		v.Runs[len(v.Runs)-1].Hi = x
	}
	return v
}

// A step is a call that was made: by its name's first letter; of Reset it is E, of Raise L.
type step struct {
	call byte
	at   int64 // an offset, a limit, a final size
	data []byte
	fin  bool
	most int
}

func (m *reading) play(c step) string {
	switch c.call {
	case 'T':
		return fmt.Sprint(m.take(c.at, c.data, c.fin))
	case 'R':
		return told(m.readOn(c.most))
	case 'L':
		m.raise(c.at)
	case 'E':
		return fmt.Sprint(m.resetAt(c.at))
	}
	return ""
}

// play makes the call of a Recv.
func play(r *Recv, c step) string {
	switch c.call {
	case 'T':
		return fmt.Sprint(r.Take(c.at, c.data, c.fin))
	case 'R':
		return told(r.Read(c.most))
	case 'L':
		r.Raise(c.at)
	case 'E':
		return fmt.Sprint(r.Reset(c.at))
	}
	return ""
}

// A walk is a row of steps: what they do mostly.
type walk struct {
	r     *rand.Rand
	calls string // of which one is taken
	long  int    // bytes of a piece
	far   int64  // how far a piece lies behind Read at most
	wild  int    // so many of a hundred pieces lie anywhere
	rare  int    // a fin comes with one of so many pieces, a Reset in one of four times as many steps
}

var moods = []walk{
	{calls: "TTR", long: 6, far: 12, wild: 3, rare: 25},
	{calls: "TTTTTR", long: 3, far: 40, wild: 3, rare: 60},
	{calls: "TTTTTTTRL", long: 20, far: 30, wild: 10, rare: 12},
	{calls: "TTRL", long: 9, far: 9, wild: 30, rare: 8},
	{calls: "TTTTTTTTTTTTR", long: 2, far: 60, wild: 2, rare: 200},
	{calls: "TRRR", long: 25, far: 3, wild: 5, rare: 40},
}

func newWalk(r *rand.Rand) *walk {
	w := moods[r.IntN(len(moods))]
	w.r = r
	return &w
}

// edge is a number at an edge of what there is.
func (w *walk) edge(v api.RecvView) int64 {
	l := []int64{
		math.MinInt64, -1, 0, 1, v.Read, v.High - 1, v.High, v.High + 1, v.Final, v.Final + 1,
		v.Limit - 1, v.Limit, v.Limit + 1, api.MaxNumber - 1, api.MaxNumber, api.MaxNumber + 1, math.MaxInt64,
	}
	return l[w.r.IntN(len(l))]
}

// piece is one near Read, or one that begins or ends at an edge.
func (w *walk) piece(v api.RecvView) step {
	size := w.r.IntN(w.long + 1)
	if w.r.IntN(12) == 0 {
		// So that one now and then lies over several.
		size *= 6
	}
	c := step{call: 'T', at: max(v.Read-4+w.r.Int64N(w.far+5), 0), data: make([]byte, size), fin: w.r.IntN(w.rare) == 0}
	for i := range c.data {
		c.data[i] = byte('a' + w.r.IntN(26))
	}
	if w.r.IntN(100) < w.wild {
		c.at = w.edge(v)
		if w.r.IntN(2) == 0 {
			c.at -= int64(size)
		}
	}
	// So that pieces go on to come once the final size is known, or the limit is near.
	top := v.Limit
	if v.Final >= 0 {
		top = v.Final
	}
	if over := c.at + int64(size) - top; over > 0 && over < int64(size) && w.r.IntN(4) > 0 {
		c.data = c.data[:int64(size)-over]
		c.fin = c.fin || v.Final >= 0 && w.r.IntN(2) == 0
	}
	return c
}

func (w *walk) step(v api.RecvView) step {
	c := step{call: w.calls[w.r.IntN(len(w.calls))]}
	if w.r.IntN(4*w.rare) == 0 {
		c.call = 'E'
	}
	switch c.call {
	case 'T':
		return w.piece(v)
	case 'R':
		c.most = 1 + w.r.IntN(2*w.long)
		if w.r.IntN(10) == 0 {
			c.most = []int{math.MinInt, -1, 0, 1, math.MaxInt - 1, math.MaxInt}[w.r.IntN(6)]
		}
	case 'L':
		c.at = v.Limit - 2 + w.r.Int64N(w.far)
		if w.r.IntN(40) == 0 {
			c.at = w.edge(v)
		}
	case 'E':
		c.at = v.High + w.r.Int64N(4) - 1
		if w.r.IntN(3) == 0 {
			c.at = w.edge(v)
		}
	}
	return c
}

func someLimit(r *rand.Rand) int64 {
	return []int64{0, 1, 5 + r.Int64N(10), 30 + r.Int64N(100), 1000, api.MaxNumber - 1, api.MaxNumber}[r.IntN(7)]
}

// met counts how often each kind of case was met.
type met map[string]int

func (k met) see(ahead, behind api.RecvView, c step, got string) {
	fresh, size := behind.Held-ahead.Held, int64(len(c.data))
	take, read, reset := c.call == 'T', c.call == 'R', c.call == 'E'
	for kind, is := range map[string]bool{
		"some bytes had come":       take && fresh > 0 && fresh < size,
		"all bytes had come":        take && fresh == 0 && size > 0 && strings.HasSuffix(got, "error 0") && !ahead.Reset,
		"over several":              take && len(behind.Runs) < len(ahead.Runs)-1,
		"High rises without a byte": take && size == 0 && behind.High > ahead.High,
		"some are left":             read && behind.Held > 0 && behind.Read > ahead.Read,
		"a hole is ahead":           read && ahead.Held > 0 && behind.Read == ahead.Read && c.most > 0,
		"a reset lets bytes go":     reset && behind.Held < ahead.Held,
		"a reset behind the end":    reset && behind.Ended && strings.HasSuffix(got, "error 0"),
		"ended":                     behind.Ended && !ahead.Ended,
	} {
		if is {
			k[kind]++
		}
	}
	if take || reset {
		_, code, _ := strings.Cut(got, "error ")
		k[fmt.Sprintf("%c answers %s", c.call, code)]++
	}
}

// enough fails if a kind of case was met too seldom.
func (k met) enough(t *testing.T) {
	t.Helper()
	for _, kind := range []string{
		"T answers 0", "T answers 1", "T answers 160", "T answers 161", "E answers 0", "E answers 1", "E answers 160", "E answers 161",
		"some bytes had come", "all bytes had come", "over several", "High rises without a byte", "some are left", "a hole is ahead",
		"a reset lets bytes go", "ended", "a reset behind the end",
	} {
		if k[kind] < 100 {
			t.Errorf("%s: met %d times alone", kind, k[kind])
		}
	}
}

func TestAgainstASecondReading(t *testing.T) {
	r := rand.New(rand.NewPCG(16, 1))
	k := met{}
	for range 6000 {
		limit := someLimit(r)
		w, a, m := newWalk(r), made(t, limit), newReading(limit)
		for i := range 10 + r.IntN(120) {
			ahead := m.view()
			c := w.step(ahead)
			got, want := play(a, c), m.play(c)
			behind := m.view()
			if got != want || view(a) != tell(behind) {
				t.Fatalf("P16.2 to P16.7: against a second reading: New(%d), step %d, of %s: %c at %d of %q, %v, %d answers %q, %s, want %q, %s",
					limit, i, tell(ahead), c.call, c.at, c.data, c.fin, c.most, got, view(a), want, tell(behind))
			}
			k.see(ahead, behind, c, got)
		}
	}
	k.enough(t)
}

// cutAnywhere cuts a text into pieces, and some of it into others again; fin is with those that end at its end, or with a piece of its own.
func cutAnywhere(r *rand.Rand, text []byte) []step {
	var l []step
	add := func(from, to int) {
		l = append(l, step{at: int64(from), data: text[from:to], fin: to == len(text) && r.IntN(3) > 0})
	}
	for range 1 + r.IntN(3) {
		for from := 0; from < len(text); {
			to := min(from+1+r.IntN(9), len(text))
			add(from, to)
			from = to
		}
	}
	for range r.IntN(8) {
		from := r.IntN(len(text) + 1)
		add(from, from+r.IntN(len(text)-from+1))
	}
	l = append(l, step{at: int64(len(text)), fin: true})
	r.Shuffle(len(l), func(i, j int) { l[i], l[j] = l[j], l[i] })
	for range r.IntN(5) {
		l = append(l, l[r.IntN(len(l))])
	}
	return l
}

// P16.8: the bytes are the sender's.
func TestTheBytesAreTheSenders(t *testing.T) {
	r := rand.New(rand.NewPCG(16, 2))
	for range 4000 {
		text := make([]byte, r.IntN(80))
		for i := range text {
			text[i] = byte(r.IntN(256))
		}
		a := made(t, int64(len(text))+r.Int64N(3))
		var got []byte
		rises := int64(0)
		end := false
		readOn := func(most int) {
			t.Helper()
			var data []byte
			data, end = a.Read(most)
			got = append(got, data...)
			if len(got) > len(text) || string(got) != string(text[:len(got)]) || end && len(got) < len(text) {
				t.Fatalf("P16.8: of %q %q is read, %v", text, got, end)
			}
		}
		for _, p := range cutAnywhere(r, text) {
			rise, err := a.Take(p.at, slices.Clone(p.data), p.fin)
			if rises += rise; err != api.OK || rises != a.View().High {
				t.Fatalf("P16.8, P16.9: Take(%d, %q, %v) = %d, %d: %s", p.at, p.data, p.fin, rise, err, view(a))
			}
			for r.IntN(3) == 0 {
				readOn(r.IntN(12))
			}
		}
		most := 1 + r.IntN(20)
		for n := 0; len(got) < len(text) && n <= len(text); n++ {
			readOn(most)
		}
		readOn(most)
		if string(got) != string(text) || !end {
			t.Fatalf("P16.8: all of %q has come, and %q is read, %v", text, got, end)
		}
	}
}

// P16.9: the bounds; and that what is held is rising, and apart, and where the runs say.
func TestBounds(t *testing.T) {
	r := rand.New(rand.NewPCG(16, 3))
	for range 3000 {
		w, a := newWalk(r), made(t, someLimit(r))
		rises, ahead := int64(0), a.View()
		for range 100 {
			c := w.step(ahead)
			switch c.call {
			case 'T':
				rise, _ := a.Take(c.at, c.data, c.fin)
				rises += rise
			case 'E':
				rise, _ := a.Reset(c.at)
				rises += rise
			default:
				play(a, c)
			}
			v := a.View()
			if v.Held > v.Limit-v.Read || v.Held < 0 || v.High > v.Limit || rises != v.High || v.Read < ahead.Read || v.Read > v.High || v.Limit < ahead.Limit {
				t.Fatalf("P16.9: the rises are %d; from %s to %s", rises, tell(ahead), tell(v))
			}
			if v.Read > 0 && (v.Runs[0].Lo != 0 || v.Runs[0].Hi < v.Read-1) {
				t.Fatalf("P16.9: Read doesn't lie in the runs: %s", tell(v))
			}
			if kept(a) > 2*v.Held || v.Held == 0 && a.held != nil {
				t.Fatalf("P16.9: %s: %d bytes of memory are held", tell(v), kept(a))
			}
			ahead = v
		}
	}
}

// P16.10: what is read at an offset is what the first piece had there that was taken.
func TestFirstTakenIsRead(t *testing.T) {
	r := rand.New(rand.NewPCG(16, 4))
	bytesRead := 0
	for range 2000 {
		w, a := newWalk(r), made(t, someLimit(r))
		first := map[int64]byte{}
		for range 100 {
			v := a.View()
			c := w.step(v)
			if c.call == 'E' {
				continue
			}
			if c.call != 'T' {
				at := v.Read
				data, _ := a.Read(c.most)
				for _, b := range data {
					if want, is := first[at]; !is || b != want {
						t.Fatalf("P16.10: %q is read at %d, want %q", b, at, want)
					}
					at++
				}
				bytesRead += len(data)
				continue
			}
			if _, err := a.Take(c.at, c.data, c.fin); err != api.OK {
				continue
			}
			for i, b := range c.data {
				if _, is := first[c.at+int64(i)]; !is {
					first[c.at+int64(i)] = b
				}
			}
		}
	}
	if bytesRead < 50000 {
		t.Errorf("%d bytes were read: too few", bytesRead)
	}
}

// Two that were told the same answer the same, also where one of them was looked at between, and was asked what it refuses (R4).
func TestAlikeAnswerAlike(t *testing.T) {
	r := rand.New(rand.NewPCG(16, 5))
	for range 600 {
		limit := someLimit(r)
		w, a, b := newWalk(r), made(t, limit), made(t, limit)
		for range 100 {
			c := w.step(a.View())
			a.Take(-1, []byte("abc"), true)
			a.Take(api.MaxNumber, []byte("abc"), true)
			a.Reset(-1)
			a.Reset(api.MaxNumber + 1)
			if got, again := play(a, c), play(b, c); got != again {
				t.Fatalf("R4: %c answers %q, and again %q", c.call, got, again)
			}
		}
		views(t, "R4: of two that were told the same", b, view(a))
	}
}
