package frame

import (
	"math"
	"slices"
	"testing"

	"portage/api"
)

// full has every field set, so that none of it may be.
func full(kind int, own bool) api.Frame {
	return api.Frame{Kind: kind, Stream: -1, Offset: -2, Data: []byte("data"), Size: -3, Fin: true, Tail: true, Limit: -4, Uni: true,
		Code: -5, Own: own, Delay: -6, Runs: runsOf(9, 1), Marks: true, Counts: [3]int64{-7, 8, 9}}
}

func TestEliciting(t *testing.T) {
	for _, k := range kinds {
		want := k != api.KPadding && k != api.KAck && k != api.KClose
		for _, f := range []api.Frame{{Kind: k}, full(k, false), full(k, true)} {
			if Eliciting(f) != want {
				t.Errorf("P4.7: Eliciting(%+v) = %v", f, !want)
			}
		}
	}
	for _, k := range strangeKinds() {
		if Eliciting(api.Frame{Kind: k}) || Eliciting(full(k, false)) {
			t.Errorf("P4.7: a frame of kind %d is eliciting", k)
		}
	}
}

func TestAllowed(t *testing.T) {
	early := []int{api.KPadding, api.KPing, api.KAck, api.KCrypto, api.KClose}
	check := func(space int, f api.Frame, want bool) {
		t.Helper()
		if Allowed(space, f) != want {
			t.Errorf("P4.8: Allowed(%d, %+v) = %v", space, f, !want)
		}
	}
	for _, k := range kinds {
		for _, space := range []int{api.Initial, api.Handshake} {
			check(space, api.Frame{Kind: k}, slices.Contains(early, k))
			check(space, full(k, false), slices.Contains(early, k))
			check(space, full(k, true), slices.Contains(early, k) && k != api.KClose)
		}
		check(api.App, api.Frame{Kind: k}, true)
		check(api.App, full(k, false), true)
		check(api.App, full(k, true), true)
		for _, space := range []int{math.MinInt, -2, -1, 3, 4, 256, 257, 1 << 32, 1<<32 + 2, math.MaxInt} {
			check(space, api.Frame{Kind: k}, false)
		}
	}
	for _, k := range strangeKinds() {
		for space := -1; space <= 3; space++ {
			check(space, api.Frame{Kind: k}, false)
		}
	}
}

func TestKeep(t *testing.T) {
	data := []int{api.KCrypto, api.KStream}
	asItIs := []int{api.KReset, api.KStop, api.KMaxData, api.KMaxStreamData, api.KMaxStreams, api.KDataBlocked, api.KStreamDataBlocked, api.KStreamsBlocked, api.KDone}
	all := append(slices.Clone(kinds), strangeKinds()...)
	frames := sound()
	for _, k := range all {
		frames = append(frames, api.Frame{Kind: k}, full(k, false), full(k, true))
	}
	for _, f := range frames {
		want := f
		keeps := true
		switch {
		case slices.Contains(data, f.Kind):
			want.Size, want.Data, want.Tail = int64(len(f.Data)), nil, false
		case !slices.Contains(asItIs, f.Kind):
			want, keeps = api.Frame{}, false
		}
		if got, kept := Keep(f); !same(got, want) || kept != keeps {
			t.Errorf("P4.9: Keep(%+v) = %+v, %v, want %+v, %v", f, got, kept, want, keeps)
		}
	}
	f := api.Frame{Kind: api.KStream, Stream: 4, Offset: 9, Data: []byte("hi"), Fin: true, Tail: true}
	if got, kept := Keep(f); !same(got, api.Frame{Kind: api.KStream, Stream: 4, Offset: 9, Size: 2, Fin: true}) || !kept {
		t.Errorf("P4.9: Keep(%+v) = %+v, %v", f, got, kept)
	}
	if string(f.Data) != "hi" || !f.Tail || f.Size != 0 {
		t.Errorf("R3: behind Keep the frame is %+v", f)
	}
}

// TestKeepKeepsNothing: of a frame that may not be, too.
func TestKeepKeepsNothing(t *testing.T) {
	for _, k := range []int{api.KCrypto, api.KStream, api.KReset, api.KDone} {
		f := full(k, false)
		got, _ := Keep(f)
		again, _ := Keep(f)
		for i := range got.Data {
			got.Data[i] = '!'
		}
		for i := range got.Runs {
			got.Runs[i] = api.Run{}
		}
		if string(f.Data) != "data" || f.Runs[0] != (api.Run{Lo: 9, Hi: 1}) || len(again.Runs) != 1 || again.Runs[0] != f.Runs[0] {
			t.Errorf("R3: behind what Keep answered of kind %d: %+v, %+v", k, f, again)
		}
	}
}
