package world

import (
	"slices"

	"portage/api"
	"portage/conn"
)

// A reading is a second reading of the chapter's words, over ends of layer 21 and a list for a road.
type reading struct {
	time, span int64
	client     *conn.Conn
	server     *conn.Conn
	flights    []api.Flight // in the order in which numbers were given
	given      int
	bytes      map[[2]int64][]byte
	ends       map[[2]int64]bool
}

func newReading(client, server api.Config, span int64) *reading {
	m := &reading{span: span, bytes: map[[2]int64][]byte{}, ends: map[[2]int64]bool{}}
	m.client, _ = conn.New(client, 0, 0)
	m.server, _ = conn.New(server, 1, 0)
	return m
}

func (m *reading) end(role int) *conn.Conn {
	if role == 0 {
		return m.client
	}
	return m.server
}

// road is what is under way, by time, then by number.
func (m *reading) road() []api.Flight { return inOrder(slices.Clone(m.flights)) }

// inOrder sorts by time what is sorted by number.
func inOrder(l []api.Flight) []api.Flight {
	slices.SortStableFunc(l, func(a, b api.Flight) int {
		switch {
		case a.At < b.At:
			return -1
		case a.At > b.At:
			return 1
		}
		return 0
	})
	return l
}

// put lays one onto the road: its number, or -1.
func (m *reading) put(f api.Flight) int {
	if len(m.flights) == 4096 {
		return -1
	}
	f.ID, f.Data = m.given, slices.Clone(f.Data)
	m.given++
	m.flights = append(m.flights, f)
	return f.ID
}

func (m *reading) place(id int) int {
	i, _ := slices.BinarySearchFunc(m.flights, id, func(f api.Flight, id int) int { return f.ID - id })
	return i
}

// timeouts asks an end's Timeout as long as its Deadline is due, but at most 8 times.
func (m *reading) timeouts(role int) {
	for i := 1; i <= 8; i++ {
		if m.end(role).Deadline() > m.time {
			return
		}
		m.end(role).Timeout(m.time)
	}
}

// whatIsDue does what is due: how many arrived.
func (m *reading) whatIsDue() int64 {
	arrived := func(f api.Flight) bool { return f.At <= m.time }
	var l []api.Flight
	for _, f := range m.flights {
		if arrived(f) {
			l = append(l, f)
		}
	}
	if len(l) > 0 {
		m.flights = slices.DeleteFunc(m.flights, arrived)
	}
	for _, f := range inOrder(l) {
		m.end(f.To).Receive(m.time, f.Data, f.Mark)
	}
	m.timeouts(0)
	m.timeouts(1)
	return int64(len(l))
}

// runs: how many datagrams an end gave, and the numbers of those that are on the road.
func (m *reading) runs(role int) (int64, []int) {
	m.timeouts(role)
	var l []int
	for n := range int64(64) {
		b, mark, ok := m.end(role).Send(m.time)
		if !ok {
			return n, l
		}
		if id := m.put(api.Flight{To: 1 - role, At: m.time + m.span, Data: b, Mark: mark}); id >= 0 {
			l = append(l, id)
		}
	}
	return 64, l
}

// then is the next time; false: there is none up to the end.
func (m *reading) then(end int64) (int64, bool) {
	next := int64(1 << 62)
	for _, f := range m.flights {
		next = min(next, f.At)
	}
	l := []int64{next, m.client.Deadline(), m.server.Deadline()}
	l = slices.DeleteFunc(l, func(at int64) bool { return at <= m.time })
	if len(l) == 0 || slices.Min(l) > end {
		return 0, false
	}
	return slices.Min(l), true
}

func (m *reading) until(n int64) int64 {
	if m.time+n > 1<<50 {
		return 1 << 50
	}
	return m.time + n
}

func (m *reading) readOf(role int, id int64, most int64) api.Reply {
	b, fin, err := m.end(role).Read(id, int(most))
	at := [2]int64{int64(role), id}
	m.bytes[at] = append(m.bytes[at], b...)
	m.ends[at] = m.ends[at] || fin
	return api.Reply{Data: b, Fin: fin, Err: err}
}

func (m *reading) drains(role int) {
	for {
		if _, err := m.end(role).Accept(); err != 0 {
			break
		}
	}
	for _, id := range m.end(role).Streams() {
		for len(m.readOf(role, id, 65536).Data) > 0 {
		}
	}
}

func (m *reading) window(n int64, list []int64) int64 {
	s, end := m.time, m.until(n)
	for i := range m.flights {
		if m.flights[i].At > s+m.span {
			m.flights[i].At = s + m.span
		}
	}
	arrived, k := int64(0), 0
	for {
		arrived += m.whatIsDue()
		for role := range 2 {
			_, ids := m.runs(role)
			for _, id := range ids {
				if len(list) > 0 {
					x := list[k%len(list)] % (m.span + 1)
					if x < 0 {
						x = -x
					}
					m.flights[m.place(id)].At = m.time + x
				}
				k++
			}
		}
		m.drains(0)
		m.drains(1)
		at, is := m.then(end)
		if !is {
			break
		}
		m.time = at
	}
	m.time = end
	return arrived + m.whatIsDue()
}

func (m *reading) passes(n int64) {
	end := m.until(n)
	m.whatIsDue()
	for at, is := m.then(end); is; at, is = m.then(end) {
		m.time = at
		m.whatIsDue()
	}
	m.time = end
	m.whatIsDue()
}

func (m *reading) befalls(a api.Act) api.Errno {
	road := m.road()
	if len(road) == 0 || a.Stream < 0 {
		return api.ErrRoadNone
	}
	if (a.Kind == 13 || a.Kind == 14) && (a.N < 0 || a.N > 1<<36) {
		return api.ErrArg
	}
	f := road[a.Stream%int64(len(road))]
	i := m.place(f.ID)
	switch a.Kind {
	case 12:
		m.flights = slices.Delete(m.flights, i, i+1)
	case 13:
		m.flights[i].At = m.time + a.N
	case 14:
		f.At = m.time + a.N
		if m.put(f) < 0 {
			return api.ErrFull
		}
	case 15:
		if f.Mark == 1 {
			m.flights[i].Mark = 2
		}
	}
	return api.OK
}

// Do plays one act.
func (m *reading) Do(a api.Act) api.Reply {
	if (a.Kind >= 1 && a.Kind <= 9 || a.Kind == 11 || a.Kind == 16) && a.End != 0 && a.End != 1 {
		return api.Reply{Err: api.ErrArg}
	}
	if (a.Kind == 10 || a.Kind == 17) && (a.N < 0 || a.N > 1<<36) {
		return api.Reply{Err: api.ErrArg}
	}
	e := m.end(a.End)
	var r api.Reply
	switch a.Kind {
	case 1:
		r.N, r.Err = e.Open(a.Uni)
	case 2:
		r.N, r.Err = e.Accept()
	case 3:
		r.Err = e.Write(a.Stream, a.Data)
	case 4:
		r.Err = e.Fin(a.Stream)
	case 5:
		n := a.N
		if n < 0 {
			n = 0
		}
		if n > 65536 {
			n = 65536
		}
		r = m.readOf(a.End, a.Stream, n)
	case 6:
		r.Err = e.Reset(a.Stream, a.N)
	case 7:
		r.Err = e.Stop(a.Stream, a.N)
	case 8:
		n := a.N
		if n < -1 {
			n = -1
		}
		if n > 8 {
			n = 8
		}
		r.Err = e.Rank(a.Stream, int(n))
	case 9:
		r.Err = e.Close(m.time, a.N, a.Data)
	case 10:
		m.passes(a.N)
	case 11:
		r.N, _ = m.runs(a.End)
	case 12, 13, 14, 15:
		r.Err = m.befalls(a)
	case 16:
		if len(a.Data) > 9000 {
			return api.Reply{Err: api.ErrLong}
		}
		e.Receive(m.time, a.Data, 0)
	case 17:
		r.N = m.window(a.N, a.List)
	default:
		r.Err = api.ErrWorldAct
	}
	return r
}
