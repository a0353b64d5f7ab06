package world

import "portage/api"

// pick finds the number of the k-th datagram under way, counted round; false: there is none.
func (w *World) pick(k int64) (int, bool) {
	n := int64(w.road.Len())
	if n == 0 || k < 0 {
		return 0, false
	}
	left := k % n
	for f := range w.road.All() {
		if left == 0 {
			return f.ID, true
		}
		left--
	}
	return 0, false
}

func (w *World) lose(id int, _ api.Act) api.Errno { return w.road.Lose(id) }

func (w *World) delay(id int, a api.Act) api.Errno {
	if !isSpan(a.N) {
		return api.ErrArg
	}
	return w.road.Delay(id, w.now+a.N)
}

func (w *World) double(id int, a api.Act) api.Errno {
	if !isSpan(a.N) {
		return api.ErrArg
	}
	_, err := w.road.Double(id, w.now+a.N)
	return err
}

func (w *World) mark(id int, _ api.Act) api.Errno { return w.road.Mark(id) }
