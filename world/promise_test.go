package world

import (
	"testing"

	"portage/api"
)

// everything is the kinds that a play of D3 has, the likelier the oftener.
var everything = []int{1, 1, 2, 3, 3, 3, 4, 5, 5, 6, 7, 8, 10, 10, 10, 11, 11, 11, 11, 11, 11, 11, 12, 12, 13, 13, 14, 14, 15, 17}

// D3, D5: whatever befalls datagrams, behind each act what was taken is what was written, what is acknowledged has come, no end closes with a code, and the discipline is kept.
func TestSafeAndDisciplined(t *testing.T) {
	t.Parallel()
	taken, probes, lost, over, idled := 0, 0, 0, 0, 0
	for seed := range uint64(500) {
		s := newSource(seed)
		s.span = pickOf[int64](s, 0, 1, 10, 1000, 30000, 30000)
		c, v := s.config(0), s.config(1)
		w := made(t, c, v, s.span)
		k := newAccount(t, seed, w, c, v)
		for range 200 {
			a := s.act(everything...)
			s.learn(a, k.play(a))
		}
		for role := range 2 {
			for _, x := range w.took[role] {
				taken += len(x.bytes)
			}
			probes, lost, over = probes+k.probes[role], lost+k.lost[role], over+k.over[role]
			if w.End(role).View().State == api.StateOver {
				idled++
			}
		}
	}
	if taken < 200000 || probes < 500 || lost < 200 || over < 50 || idled < 5 {
		t.Errorf("%d bytes taken, %d probes, %d lost, %d beyond a window, %d idle: the plays say little", taken, probes, lost, over, idled)
	}
}

// D3, D5: so it is where an application closes, but for the states; and D5 whatever comes.
func TestDisciplinedBehindCloses(t *testing.T) {
	t.Parallel()
	closed := 0
	for seed := range uint64(300) {
		s := newSource(1000 + seed)
		s.span = pickOf[int64](s, 0, 10, 1000, 30000)
		c, v := s.config(0), s.config(1)
		s.w = made(t, c, v, s.span)
		k := newAccount(t, seed, s.w, c, v)
		for i := range 150 {
			a := s.act(everything...)
			switch n := s.IntN(100); {
			case n < 2 && i > 60:
				a = s.act(kindClose)
			case n < 12 && seed%2 == 0:
				a = s.heard()
			}
			s.learn(a, k.play(a))
		}
		if k.closed {
			closed++
		}
	}
	if closed < 30 {
		t.Errorf("%d plays alone had a close", closed)
	}
}

// quiet is a configuration as D4 asks for it, on a road of this span.
func (s *source) quiet(role int, span int64) api.Config {
	c := s.config(role)
	c.Idle = 0
	c.Data, c.StreamOwn, c.StreamHis, c.StreamUni = 20000+s.Int64N(50000), 20000+s.Int64N(20000), 20000+s.Int64N(20000), 20000+s.Int64N(20000)
	// Above twice the span and the greatest AckDelay of all, by one and more.
	c.MaxPTO = max(c.Granularity, 2*span+16383+1+pickOf[int64](s, 0, 1, 1000, 1000000))
	return c
}

// written tells S and B of D4.
func (k *account) written() (streams, size int64) {
	for role := range 2 {
		for _, f := range k.flows[role] {
			if len(f.wrote) > 0 || f.fin {
				streams++
				size += int64(len(f.wrote))
			}
		}
	}
	return streams, size
}

// lacks tells what is lacking of D4; nothing: all was delivered.
func (k *account) lacks() string {
	for role := range 2 {
		for id, f := range k.flows[role] {
			b, end := k.w.Took(1-role, id)
			if len(b) != len(f.wrote) {
				return "not all was taken"
			}
			if end != f.fin {
				return "an end wasn't told"
			}
		}
		for _, id := range k.w.End(role).Streams() {
			v, _ := k.w.End(role).Stream(id)
			if v.Send.Base != v.Send.Written || v.Send.Fin && !v.Send.FinAcked {
				return "not all is acknowledged"
			}
		}
		if !k.w.End(role).View().Confirmed {
			return "an end isn't confirmed"
		}
	}
	return ""
}

// clears plays D4's clear windows, as many as it takes: how many, and how many it may take at most.
func (s *source) clears(k *account, c, v api.Config) (took, most int64) {
	streams, size := k.written()
	p, d := max(c.MaxPTO, v.MaxPTO), max(c.AckDelay, v.AckDelay)
	most = 4 + 2*(streams+(size+999)/1000)
	for took < most {
		took++
		a := api.Act{Kind: kindClear, N: 2*p + 6*s.span + 2*d}
		if n := pickOf(s, 0, 1, s.span, -1, s.Int64()); n%(s.span+1) != 0 {
			a.List = []int64{n}
		}
		k.play(a)
		if k.lacks() == "" {
			break
		}
	}
	return took, most
}

// D4: behind whatever befell, in clear windows all is delivered, and D3 and D5 hold all the time. (No play here comes to where a client's DONE was told lost while packets of App fill its window, which a server that isn't complete passes over: there chapter 14's timer doesn't run, and chapter 21 lets DONE wait for the window, so that both are silent for good.)
func TestDelivered(t *testing.T) {
	t.Parallel()
	streams, size := int64(0), int64(0)
	for seed := range uint64(1500) {
		s := newSource(seed)
		s.span = pickOf[int64](s, 1, 10, 1000, 30000)
		c, v := s.quiet(0, s.span), s.quiet(1, s.span)
		w := made(t, c, v, s.span)
		k := newAccount(t, seed, w, c, v)
		kinds := []int{1, 1, 2, 3, 3, 3, 4, 5, 8, 10, 10, 10, 11, 11, 11, 11, 11, 11, 11}
		for range s.IntN(4) {
			kinds = append(kinds, 12, 12, 13, 13, 14, 15)
		}
		if s.IntN(3) == 0 {
			kinds = append(kinds, 17)
		}
		for range 150 {
			a := s.act(kinds...)
			s.learn(a, k.play(a))
		}
		took, most := s.clears(k, c, v)
		if lack := k.lacks(); lack != "" {
			t.Fatalf("D4: seed %d: behind %d windows of %d %s: %+v\n%+v", seed, took, most, lack, w.End(0).View(), w.End(1).View())
		}
		n, b := k.written()
		streams, size = streams+n, size+b
	}
	if streams < 1000 || size < 2000000 {
		t.Errorf("%d streams, %d bytes: the plays say little", streams, size)
	}
}
