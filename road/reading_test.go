package road

import (
	"slices"

	"portage/api"
)

// A reading is a second reading of the chapter's words: a list of what is under way, in the order in which numbers were given.
type reading struct {
	clock, span int64
	given       int
	under       []api.Flight
}

func newReading(now, span int64) *reading {
	m := &reading{span: span}
	m.tell(now)
	return m
}

// tell lets the clock hear a time (R5).
func (m *reading) tell(now int64) {
	if now > api.MaxTime {
		now = api.MaxTime
	}
	if now > m.clock {
		m.clock = now
	}
}

func (m *reading) where(id int) int {
	return slices.IndexFunc(m.under, func(f api.Flight) bool { return f.ID == id })
}

func (m *reading) add(f api.Flight) (int, api.Errno) {
	if len(m.under) >= 4096 {
		return 0, api.ErrFull
	}
	f.ID = m.given
	f.Data = slices.Clone(f.Data)
	m.given++
	m.under = append(m.under, f)
	return f.ID, api.OK
}

func (m *reading) Put(now int64, to int, b []byte, mark int) (int, api.Errno) {
	m.tell(now)
	switch {
	case to != 0 && to != 1:
		return 0, api.ErrArg
	case mark < 0 || mark > 2:
		return 0, api.ErrArg
	case len(b) > 9000:
		return 0, api.ErrLong
	}
	return m.add(api.Flight{To: to, At: m.clock + m.span, Data: b, Mark: mark})
}

func (m *reading) Lose(id int) api.Errno {
	i := m.where(id)
	if i < 0 {
		return api.ErrNone
	}
	m.under = slices.Delete(m.under, i, i+1)
	return api.OK
}

func (m *reading) Delay(id int, at int64) api.Errno {
	i := m.where(id)
	switch {
	case i < 0:
		return api.ErrNone
	case at < 0 || at > 1<<62-1:
		return api.ErrArg
	}
	m.under[i].At = at
	return api.OK
}

func (m *reading) Double(id int, at int64) (int, api.Errno) {
	i := m.where(id)
	switch {
	case i < 0:
		return 0, api.ErrNone
	case at < 0 || at > 1<<62-1:
		return 0, api.ErrArg
	}
	f := m.under[i]
	f.At = at
	return m.add(f)
}

func (m *reading) Mark(id int) api.Errno {
	i := m.where(id)
	if i < 0 {
		return api.ErrNone
	}
	if m.under[i].Mark == 1 {
		m.under[i].Mark = 2
	}
	return api.OK
}

// all is what is under way: of those of one time the order is that of the list, which is that of the numbers.
func (m *reading) all() []api.Flight {
	l := slices.Clone(m.under)
	slices.SortStableFunc(l, func(a, b api.Flight) int {
		switch {
		case a.At < b.At:
			return -1
		case a.At > b.At:
			return 1
		}
		return 0
	})
	return l
}

func (m *reading) Take(now int64) []api.Flight {
	m.tell(now)
	arrived := func(f api.Flight) bool { return f.At <= m.clock }
	var l []api.Flight
	for _, f := range m.all() {
		if arrived(f) {
			l = append(l, f)
		}
	}
	m.under = slices.DeleteFunc(m.under, arrived)
	return l
}

func (m *reading) Next() int64 {
	next := int64(api.Never)
	for _, f := range m.under {
		next = min(next, f.At)
	}
	return next
}
