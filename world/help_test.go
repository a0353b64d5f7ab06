package world

import (
	"fmt"
	"reflect"
	"slices"
	"strings"
	"testing"

	"portage/api"
	"portage/frame"
	"portage/packet"
)

// config is that of the chapter's examples.
func config(role int) api.Config {
	c := api.Config{
		Params: api.Params{Data: 65536, StreamOwn: 16384, StreamHis: 16384, StreamUni: 16384, Bidi: 4, Uni: 4, AckExp: 3, AckDelay: 25000},
		MTU:    1200, Capacity: 16384, InitialRTT: 100000, Granularity: 1000, MaxPTO: 1000000, Burst: 12000, ID: []byte{9},
	}
	if role == api.Client {
		c.To = []byte{5}
	}
	return c
}

// made is a world of these two configurations.
func made(t *testing.T, client, server api.Config, span int64) *World {
	t.Helper()
	w, err := New(client, server, span)
	if w == nil || err != api.OK {
		t.Fatalf("D1: New(%+v, %+v, %d) = %v, %d", client, server, span, w, err)
	}
	return w
}

// plain is the examples' world.
func plain(t *testing.T) *World {
	t.Helper()
	return made(t, config(api.Client), config(api.Server), 1000)
}

// changed is the examples' world, with something else in both configurations.
func changed(t *testing.T, change func(*api.Config)) *World {
	t.Helper()
	c, s := config(api.Client), config(api.Server)
	change(&c)
	change(&s)
	return made(t, c, s, 1000)
}

// met is the examples' world behind the handshake, at the time 2000000; nothing is under way.
func met(t *testing.T) *World {
	t.Helper()
	w := plain(t)
	// HELLO; what the server tells; the client's DONE; the server's; and, put off, its acknowledgement.
	does(t, "the handshake", w, api.Act{Kind: 17, N: 2000000}, api.Reply{N: 5})
	for role := range 2 {
		if v := w.End(role).View(); !v.Confirmed || v.Recovery.Window.Flight != 0 || len(w.Road()) != 0 || w.Now() != 2000000 {
			t.Fatalf("the handshake: end %d at %d: %+v", role, w.Now(), v)
		}
	}
	return w
}

// is holds a value against what it is to be.
func is[T any](t *testing.T, say string, got, want T) {
	t.Helper()
	if !reflect.DeepEqual(got, want) {
		t.Errorf("%s: %+v, want %+v", say, got, want)
	}
}

// one plays an act alone.
func one(t *testing.T, w *World, a api.Act) api.Reply {
	t.Helper()
	l := w.Do(a)
	if len(l) != 1 {
		t.Fatalf("D1: %+v has %d replies", a, len(l))
	}
	return l[0]
}

// does plays an act, and holds its reply to what it must be.
func does(t *testing.T, say string, w *World, a api.Act, want api.Reply) {
	t.Helper()
	if got := tell(one(t, w, a)); got != tell(want) {
		t.Errorf("%s: %s = %s, want %s", say, act(a), got, tell(want))
	}
}

// all plays acts that must be OK.
func all(t *testing.T, w *World, acts ...api.Act) []api.Reply {
	t.Helper()
	l := w.Do(acts...)
	for i, r := range l {
		if r.Err != api.OK {
			t.Fatalf("%s = %s", act(acts[i]), tell(r))
		}
	}
	return l
}

// tell tells a reply.
func tell(r api.Reply) string {
	return fmt.Sprintf("%d %d %v %.80q (%d)", int(r.Err), r.N, r.Fin, r.Data, len(r.Data))
}

// act tells an act.
func act(a api.Act) string {
	return fmt.Sprintf("%d end %d stream %d n %d uni %v data %.40q (%d) list %d", a.Kind, a.End, a.Stream, a.N, a.Uni, a.Data, len(a.Data), a.List)
}

// under tells what is under way: number, to whom, when, mark, how many bytes.
func under(w *World) string {
	var l []string
	for _, f := range w.Road() {
		l = append(l, fmt.Sprintf("%d%s%d%s%d", f.ID, []string{"c", "s"}[f.To], f.At, []string{"-", "+", "!"}[f.Mark], len(f.Data)))
	}
	return strings.Join(l, " ")
}

// has holds the road to what must be under way.
func has(t *testing.T, say string, w *World, want string) {
	t.Helper()
	if got := under(w); got != want {
		t.Errorf("%s: under way is %s, want %s", say, got, want)
	}
}

// got holds Took to what it must tell.
func got(t *testing.T, say string, w *World, role int, id int64, want string, end bool) {
	t.Helper()
	if b, e := w.Took(role, id); string(b) != want || e != end {
		t.Errorf("%s: Took(%d, %d) = %.40q (%d), %v, want %.40q (%d), %v", say, role, id, b, len(b), e, want, len(want), end)
	}
}

// dump tells all that there is of a value, to its depth; functions and what is not of its own are left out.
func dump(v reflect.Value) string {
	l := []string{}
	switch v.Kind() {
	case reflect.Pointer, reflect.Interface:
		if v.IsNil() {
			return "nil"
		}
		return "&" + dump(v.Elem())
	case reflect.Struct:
		for i := range v.NumField() {
			l = append(l, v.Type().Field(i).Name+":"+dump(v.Field(i)))
		}
	case reflect.Map:
		for _, k := range v.MapKeys() {
			l = append(l, dump(k)+":"+dump(v.MapIndex(k)))
		}
		slices.Sort(l)
	case reflect.Slice, reflect.Array:
		if v.Kind() == reflect.Slice && v.Type().Elem().Kind() == reflect.Uint8 {
			return fmt.Sprintf("%x", v.Bytes())
		}
		for i := range v.Len() {
			l = append(l, dump(v.Index(i)))
		}
	case reflect.Func:
		return "func"
	default:
		return fmt.Sprint(v)
	}
	return "{" + strings.Join(l, " ") + "}"
}

// picture is all that there is of a world.
func picture(w *World) string {
	l := []string{fmt.Sprint(w.now, w.span), under(w)}
	// What the road holds goes in circles: of it there is what it tells, its clock and the number that it gives next.
	for _, name := range []string{"now", "next"} {
		l = append(l, fmt.Sprint(reflect.ValueOf(w.road).Elem().FieldByName(name)))
	}
	for _, f := range w.Road() {
		l = append(l, fmt.Sprintf("%x", f.Data))
	}
	return strings.Join(append(l, dump(reflect.ValueOf(w.ends)), dump(reflect.ValueOf(w.took))), " ")
}

// unchanged does something that is to change nothing.
func unchanged(t *testing.T, say string, w *World, do func()) {
	t.Helper()
	before := picture(w)
	do()
	if picture(w) != before {
		t.Errorf("%s changed something", say)
	}
}

func repeat(text string, n int) []byte { return []byte(strings.Repeat(text, n)) }

// counts are those of marks in the ack that is the last under way, of one short packet.
func counts(t *testing.T, w *World) [3]int64 {
	t.Helper()
	l := w.Road()
	if len(l) == 0 {
		t.Fatal("nothing is under way")
	}
	p, _ := packet.Split(l[len(l)-1].Data, 1, [3]int64{-1, -1, -1})
	for _, x := range p {
		for _, f := range frame.All(x.Payload) {
			if f.Kind == api.KAck {
				return f.Counts
			}
		}
	}
	t.Fatal("there is no ack")
	return [3]int64{}
}
