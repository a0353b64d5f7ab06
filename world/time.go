package world

import (
	"portage/api"
	"portage/conn"
)

const (
	mostExpiries = 8  // so often an end's timers are asked at one time
	mostGiven    = 64 // datagrams that an end gives when it runs
)

// due does what is due at the world's time: how many datagrams arrived.
func (w *World) due() int64 {
	l := w.road.Take(w.now)
	for _, f := range l {
		w.ends[f.To].Receive(w.now, f.Data, f.Mark)
	}
	for _, e := range w.ends {
		w.expire(e)
	}
	return int64(len(l))
}

// expire asks an end's timers, as long as one is due.
func (w *World) expire(e *conn.Conn) {
	for asked := 0; asked < mostExpiries && e.Deadline() <= w.now; asked++ {
		e.Timeout(w.now)
	}
}

// runs has an end run: how many datagrams it gave. Of each that the road has room for, put is told the number.
func (w *World) runs(role int, put func(id int)) int64 {
	e := w.ends[role]
	w.expire(e)
	given := int64(0)
	for given < mostGiven {
		b, mark, is := e.Send(w.now)
		if !is {
			break
		}
		given++
		// What a full road has no room for is gone, as if it had been lost.
		if id, err := w.road.Put(w.now, other(role), b, mark); err == api.OK {
			put(id)
		}
	}
	return given
}

// other is the role of the other end.
func other(role int) int { return api.Client + api.Server - role }

// next is the next time at which something is due; Never: there is none. What is due now already is left out: it comes with the next.
func (w *World) next() int64 {
	next := int64(api.Never)
	for _, at := range [...]int64{w.road.Next(), w.ends[api.Client].Deadline(), w.ends[api.Server].Deadline()} {
		if at > w.now {
			next = min(next, at)
		}
	}
	return next
}

// ahead is the world's time and n, as far as time goes.
func (w *World) ahead(n int64) int64 { return min(w.now+n, api.MaxTime) }

// goOn lets time go on by n. Nobody sends meanwhile.
func (w *World) goOn(n int64) {
	end := w.ahead(n)
	for at := w.now; at <= end; at = w.next() {
		w.now = at
		w.due()
	}
	w.now = end
	w.due()
}

// clear plays a clear window: nothing befalls any datagram, and both ends and their applications do all they can.
func (w *World) clear(a api.Act) api.Reply {
	end, arrived := w.ahead(a.N), int64(0)
	w.hasten(w.now + w.span)
	count := 0
	put := func(id int) {
		// No error can come: it has just been put there.
		w.road.Delay(id, w.now+w.way(a.List, count))
		count++
	}
	for at := w.now; at <= end; at = w.next() {
		w.now = at
		arrived += w.due()
		w.runs(api.Client, put)
		w.runs(api.Server, put)
		w.drain(api.Client)
		w.drain(api.Server)
	}
	w.now = end
	return api.Reply{N: arrived + w.due()}
}

// hasten has all that would arrive later arrive then.
func (w *World) hasten(then int64) {
	for f := range w.road.All() {
		if f.At > then {
			w.road.Delay(f.ID, then)
		}
	}
}

// way is how long the k-th datagram of a clear window takes.
func (w *World) way(list []int64, k int) int64 {
	if len(list) == 0 {
		return w.span
	}
	n := list[k%len(list)] % (w.span + 1)
	return max(n, -n)
}
