package frame

import (
	"portage/api"
	"portage/num"
)

// A reader stands at a place in bytes. Where it can't go on it says why, and panics: none of its callers below the face has anything to say to that.
type reader struct {
	b   []byte
	at  int
	why api.Errno
}

func (r *reader) giveUp(why api.Errno) {
	r.why = why
	panic(why)
}

func (r *reader) number() int64 {
	v, end, err := num.Get(r.b, r.at)
	if err != api.OK {
		r.giveUp(api.ErrFrameShort)
	}
	r.at = end
	return int64(v)
}

func (r *reader) frame() api.Frame {
	from := r.at
	kind := r.number()
	f, l, known := shapeOf(kind)
	if !known || r.at-from != num.Size(uint64(kind)) {
		r.giveUp(api.ErrFrameKind)
	}
	for _, p := range l {
		r.part(&f, p)
	}
	return f
}

func (r *reader) part(f *api.Frame, p part) {
	switch p {
	case noPart:
	case partZeros:
		f.Size = r.zeros()
	case partLargest:
		f.Runs = []api.Run{{Hi: r.number()}}
	case partRuns:
		f.Runs = r.runs(f.Runs[0].Hi)
	case partCounts:
		for i := range f.Counts {
			f.Counts[i] = r.number()
		}
	case partData:
		f.Data = r.bytes(f.Offset, r.number())
	case partTail:
		f.Data = r.bytes(f.Offset, int64(len(r.b)-r.at))
	case partEight:
		f.Data = r.bytes(0, eight)
	default:
		v := r.number()
		if v > most(p) {
			r.giveUp(api.ErrFrameField)
		}
		*field(f, p) = v
	}
}

// zeros goes behind the bytes 00 in a row, the type's among them, and tells how many they are.
func (r *reader) zeros() int64 {
	n := int64(1)
	for n < mostPadding && r.at < len(r.b) && r.b[r.at] == 0 {
		n++
		r.at++
	}
	return n
}

// runs reads all runs. How many are told is no more than what the bytes say: room is made for those alone that stand there.
func (r *reader) runs(largest int64) []api.Run {
	further := r.number()
	l := []api.Run{r.run(largest)}
	for range further {
		// The gap is less 1, and the next number below the missing ones is the run's.
		gap := r.number()
		l = append(l, r.run(l[len(l)-1].Lo-gap-2))
	}
	return l
}

// run reads how long the run is whose greatest number is told already, be it one that may be or not.
func (r *reader) run(hi int64) api.Run {
	if hi < 0 {
		r.giveUp(api.ErrFrameField)
	}
	less := r.number()
	if less > hi {
		r.giveUp(api.ErrFrameField)
	}
	return api.Run{Lo: hi - less, Hi: hi}
}

// bytes reads n bytes of what begins at an offset.
func (r *reader) bytes(offset, n int64) []byte {
	if n > api.MaxNumber-offset {
		r.giveUp(api.ErrFrameField)
	}
	if n > int64(len(r.b)-r.at) {
		r.giveUp(api.ErrFrameShort)
	}
	from := r.at
	r.at += int(n)
	return append([]byte(nil), r.b[from:r.at]...)
}
