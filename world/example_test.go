package world

import (
	"testing"

	"portage/api"
)

// The chapter's examples, row by row.
func TestExample(t *testing.T) {
	w := plain(t)
	does(t, "open", w, api.Act{Kind: 1}, api.Reply{Err: api.ErrStreamsLimit})
	does(t, "run", w, api.Act{Kind: 11}, api.Reply{N: 1})
	has(t, "run", w, "0s1000-1200")
	does(t, "double", w, api.Act{Kind: 14, N: 300}, api.Reply{})
	has(t, "double", w, "1s300-1200 0s1000-1200")
	does(t, "lose", w, api.Act{Kind: 12, Stream: 1}, api.Reply{})
	has(t, "lose", w, "1s300-1200")
	does(t, "tick", w, api.Act{Kind: 10, N: 299}, api.Reply{})
	is(t, "tick: the server's bytes", w.End(1).View().Got, 0)
	does(t, "tick", w, api.Act{Kind: 10, N: 1}, api.Reply{})
	is(t, "tick: the time", w.Now(), 300)
	is(t, "tick: the server's bytes", w.End(1).View().Got, 1200)
	has(t, "tick", w, "")
	all(t, w, api.Act{Kind: 17, N: 2000000})
	is(t, "clear: confirmed", [2]bool{w.End(0).View().Confirmed, w.End(1).View().Confirmed}, [2]bool{true, true})
	does(t, "open", w, api.Act{Kind: 1}, api.Reply{N: 0})
	does(t, "write", w, api.Act{Kind: 3, Data: []byte("abc")}, api.Reply{})
	does(t, "fin", w, api.Act{Kind: 4}, api.Reply{})
	all(t, w, api.Act{Kind: 17, N: 2000000, List: []int64{-7, 1500}})
	is(t, "clear: the time", w.Now(), 4000300)
	got(t, "clear", w, 1, 0, "abc", true)
	does(t, "no act", w, api.Act{Kind: 18}, api.Reply{Err: api.ErrWorldAct})
}

// The same as one script, and as a test of how often datagrams take how long.
func TestExampleAtOnce(t *testing.T) {
	w := plain(t)
	l := w.Do(
		api.Act{Kind: 1}, api.Act{Kind: 11}, api.Act{Kind: 14, N: 300}, api.Act{Kind: 12, Stream: 1}, api.Act{Kind: 10, N: 299}, api.Act{Kind: 10, N: 1},
		api.Act{Kind: 17, N: 2000000}, api.Act{Kind: 1}, api.Act{Kind: 3, Data: []byte("abc")}, api.Act{Kind: 4}, api.Act{Kind: 18},
	)
	var errs []api.Errno
	for _, r := range l {
		errs = append(errs, r.Err)
	}
	is(t, "the replies", errs, []api.Errno{api.ErrStreamsLimit, 0, 0, 0, 0, 0, 0, 0, 0, 0, api.ErrWorldAct})
	// Datagrams arrive 7, 499, 7, 499, .. behind their sending: the stream's, then the server's with its acknowledgement, 25000 behind its coming.
	list := []int64{-7, 1500}
	does(t, "clear", w, api.Act{Kind: 17, N: 0, List: list}, api.Reply{})
	is(t, "the first takes 7", w.Road()[0].At, w.Now()+7)
	w = met(t)
	all(t, w, api.Act{Kind: 1}, api.Act{Kind: 3, Data: []byte("abc")})
	does(t, "clear: the first takes 7, and its acknowledgement waits", w, api.Act{Kind: 17, N: 7 + 24999, List: list}, api.Reply{N: 1})
	has(t, "clear: the first takes 7, and its acknowledgement waits", w, "")
	w = met(t)
	all(t, w, api.Act{Kind: 1}, api.Act{Kind: 3, Data: []byte("abc")})
	does(t, "clear: its acknowledgement goes", w, api.Act{Kind: 17, N: 7 + 25000 + 498, List: list}, api.Reply{N: 1})
	is(t, "clear: its acknowledgement takes 499", w.Road()[0].At, 2000000+7+25000+499)
	w = met(t)
	all(t, w, api.Act{Kind: 1}, api.Act{Kind: 3, Data: []byte("abc")})
	does(t, "clear: its acknowledgement has come", w, api.Act{Kind: 17, N: 7 + 25000 + 499, List: list}, api.Reply{N: 2})
	has(t, "clear: its acknowledgement has come", w, "")
}
