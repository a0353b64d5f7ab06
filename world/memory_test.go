package world

import (
	"slices"
	"strings"
	"sync"
	"testing"

	"portage/api"
)

// roomy is a list of these bytes with the same ones behind it, as spare room.
func roomy(text string) []byte { return []byte(text + text)[:len(text)] }

// spoil writes over a list, with the room behind it.
func spoil[T any](l []T, with T) {
	for i := range l[:cap(l)] {
		l[:cap(l)][i] = with
	}
}

// What is handed in isn't changed, nor the room behind it; nor is it kept.
func TestHandedIn(t *testing.T) {
	c, s := config(0), config(1)
	c.ID, c.To, s.ID = roomy("client"), roomy("first"), roomy("server")
	w := made(t, c, s, 1000)
	for _, b := range [][]byte{c.ID, c.To, s.ID} {
		spoil(b, '!')
	}
	all(t, w, api.Act{Kind: 11})
	is(t, "R3: New keeps ids", strings.HasPrefix(string(w.Road()[0].Data[5:]), "\x05first\x06client"), true)
	all(t, w, api.Act{Kind: 17, N: 1000000})
	is(t, "R3: New keeps ids", string(w.End(0).View().There), "server")

	text, list := roomy("abcdef"), slices.Repeat([]int64{7, 8}, 4)[:4]
	acts := []api.Act{{Kind: 1}, {Kind: 3, Data: text}, {Kind: 4}, {Kind: 17, N: 5, List: list}, {Kind: 16, End: 1, Data: text}, {Kind: 12, Stream: 99}, {Kind: 3, Data: text}}
	acts = append(acts, acts...)[:len(acts)]
	before := dumpActs(acts)
	all(t, w, acts[:5]...)
	w.Do(acts[5:]...)
	is(t, "R3: Do changes what it is handed", dumpActs(acts), before)
	is(t, "R3: Do changes what it is handed", []any{string(text[:12]), list[:8]}, []any{"abcdefabcdef", slices.Repeat([]int64{7, 8}, 4)})
	spoil(text, '!')
	spoil(list, -1)
	spoil(acts, api.Act{Kind: 9})
	all(t, w, api.Act{Kind: 17, N: 1000000})
	got(t, "R3: Do keeps what it is handed", w, 1, 0, "abcdef", true)

	reason := roomy("bye")
	all(t, w, api.Act{Kind: 9, N: 7, Data: reason})
	spoil(reason, '!')
	is(t, "R3: Do keeps a reason", string(w.End(0).View().Reason), "bye")
}

// dumpActs tells acts, with the room behind them.
func dumpActs(l []api.Act) string {
	var texts []string
	for _, a := range l[:cap(l)] {
		texts = append(texts, act(a))
	}
	return strings.Join(texts, "; ")
}

// A datagram that is injected isn't kept, also where its bytes wait to be read.
func TestInjectedIsNotKept(t *testing.T) {
	w := met(t)
	all(t, w, api.Act{Kind: 1}, api.Act{Kind: 3, Data: []byte("abcdef")}, api.Act{Kind: 11})
	b := w.Road()[0].Data
	all(t, w, api.Act{Kind: 16, End: 1, Data: b})
	spoil(b, '!')
	does(t, "R3: inject keeps what it is handed", w, api.Act{Kind: 5, End: 1, N: 9}, api.Reply{Data: []byte("abcdef")})
}

// What is answered is the caller's own.
func TestAnswersAreNewMemory(t *testing.T) {
	w := met(t)
	all(t, w, api.Act{Kind: 1}, api.Act{Kind: 3, Data: []byte("abcdefghijkl")}, api.Act{Kind: 11}, api.Act{Kind: 14, N: 500}, api.Act{Kind: 14, N: 600})
	for range 2 {
		l := w.Road()
		want := string(l[1].Data)
		for i, f := range l {
			if string(f.Data) != want {
				t.Errorf("R3: datagram %d of an answer was changed by another", i)
			}
			spoil(f.Data, '!')
			_ = append(f.Data, "!!!!"...)
		}
		spoil(l, api.Flight{})
	}
	all(t, w, api.Act{Kind: 10, N: 500})
	replies := w.Do(api.Act{Kind: 5, End: 1, N: 3}, api.Act{Kind: 5, End: 1, N: 3}, api.Act{Kind: 5, End: 1, N: 3})
	for i, want := range []string{"abc", "def", "ghi"} {
		if string(replies[i].Data) != want {
			t.Errorf("R3: reply %d of an answer is %q, want %q", i, replies[i].Data, want)
		}
		spoil(replies[i].Data, '!')
		_ = append(replies[i].Data, "!!!!"...)
	}
	spoil(replies, api.Reply{})
	got(t, "R3: replies are written over", w, 1, 0, "abcdefghi", false)
	for range 2 {
		b, _ := w.Took(1, 0)
		spoil(b, '!')
		_ = append(b, "!!!!"...)
	}
	got(t, "R3: what was taken is written over", w, 1, 0, "abcdefghi", false)
	does(t, "R3: and read on", w, api.Act{Kind: 5, End: 1, N: 9}, api.Reply{Data: []byte("jkl")})
	got(t, "R3: and read on", w, 1, 0, "abcdefghijkl", false)
}

// A script is played the same in each world, whatever is played in others at the same time.
func TestWorldsAreApart(t *testing.T) {
	script := func(w *World) string {
		var texts []string
		acts := []api.Act{{Kind: 17, N: 1000000}, {Kind: 1}, {Kind: 1, End: 1}, {Kind: 3, Data: repeat("abc", 3000)}, {Kind: 3, End: 1, Stream: 1, Data: repeat("xyz", 2000)}, {Kind: 11}, {Kind: 12, Stream: 3}, {Kind: 14, N: 77}, {Kind: 17, N: 300000, List: []int64{3, 900}}}
		for _, r := range w.Do(acts...) {
			texts = append(texts, tell(r))
		}
		return strings.Join(append(texts, picture(w)), "; ")
	}
	want := script(plain(t))
	other := plain(t)
	before := picture(other)
	var wait sync.WaitGroup
	for range 8 {
		wait.Go(func() {
			w, _ := New(config(0), config(1), 1000)
			if got := script(w); got != want {
				t.Error("R4: the same script was played another way")
			}
		})
	}
	wait.Wait()
	is(t, "R4: another world", picture(other), before)
	is(t, "R4: another world", script(other), want)
}

// An end that is asked on its own is the world's: what is read so isn't counted.
func TestEndAskedAlone(t *testing.T) {
	w := met(t)
	id, err := w.End(0).Open(false)
	is(t, "Open", []any{id, err}, []any{int64(0), api.OK})
	is(t, "Write", w.End(0).Write(0, []byte("abcdef")), api.OK)
	all(t, w, api.Act{Kind: 11}, api.Act{Kind: 10, N: 1000})
	b, _, _ := w.End(1).Read(0, 2)
	is(t, "Read", string(b), "ab")
	got(t, "D2: acts and draining", w, 1, 0, "", false)
	all(t, w, api.Act{Kind: 17, N: 0})
	got(t, "D2: acts and draining", w, 1, 0, "cdef", false)
}
