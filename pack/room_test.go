package pack

import (
	"math"
	"strings"
	"testing"

	"portage/api"
)

func leaves(t *testing.T, what string, room int, p api.Packet, ahead, want int) {
	t.Helper()
	if n := Room(room, p, ahead); n != want {
		t.Errorf("%s: Room(%d, space %d of width %d, %d) = %d, want %d", what, room, p.Space, p.Width, ahead, n, want)
	}
}

func TestRoomExamples(t *testing.T) {
	i, a := packetI(), packetA()
	leaves(t, "P20.2", 1200, i, 0, 1186)
	leaves(t, "P20.2", 1200, a, 15, 1181)
	leaves(t, "P20.2", 14, i, 0, 0)
	leaves(t, "P20.2", 1200, wide(i, 0), 0, 0)
	leaves(t, "P20.2", 1200, i, -1, 0)
	leaves(t, "P20.2", 20000, i, 0, 16382)
	leaves(t, "P20.2", 20000, a, 0, 19996)
}

// Overhead is 14 of I and of H, 4 of A, at their widths.
func TestRoomIsWhatIsLeft(t *testing.T) {
	for _, c := range []struct {
		p    api.Packet
		head int
	}{{packetI(), 14}, {packetH(), 14}, {packetA(), 4}, {wide(packetI(), 4), 17}, {wide(packetH(), 4), 16}, {wide(packetA(), 4), 7},
		{of(api.Initial, twenty, twenty, 0, 1, ""), 51}, {of(api.Handshake, "", "", 0, 1, ""), 10}, {of(api.App, twenty, "", 0, 3, ""), 24}} {
		for _, ahead := range []int{0, 1, 15, 1000} {
			leaves(t, "P20.2: one byte left", ahead+c.head+1, c.p, ahead, 1)
			leaves(t, "P20.2: two bytes left", ahead+c.head+2, c.p, ahead, 2)
			leaves(t, "P20.2: nothing left", ahead+c.head, c.p, ahead, 0)
			leaves(t, "P20.2: one byte short", ahead+c.head-1, c.p, ahead, 0)
			leaves(t, "P20.2", ahead+c.head+1200, c.p, ahead, 1200)
			leaves(t, "P20.2: ahead is just room", ahead, c.p, ahead, 0)
			leaves(t, "P20.2: ahead is above room", ahead-1, c.p, ahead, 0)
		}
	}
}

// Of a long packet at most 16383 less Width, of a short one all that is left.
func TestRoomOfALongPacket(t *testing.T) {
	for width := 1; width <= 4; width++ {
		for _, c := range []struct {
			p    api.Packet
			head int
		}{{wide(packetI(), width), 13 + width}, {wide(packetH(), width), 12 + width}} {
			most := 16383 - width
			for _, ahead := range []int{0, 20, 50000} {
				leaves(t, "P20.2: one below the most", ahead+c.head+most-1, c.p, ahead, most-1)
				leaves(t, "P20.2: the most", ahead+c.head+most, c.p, ahead, most)
				leaves(t, "P20.2: one above the most", ahead+c.head+most+1, c.p, ahead, most)
			}
			leaves(t, "P20.2: the greatest room", 65535, c.p, 0, most)
			leaves(t, "P20.2: any room", math.MaxInt, c.p, 0, most)
		}
		a := wide(packetA(), width)
		leaves(t, "P20.2: App", 3+width+16383-width+1, a, 0, 16384-width)
		leaves(t, "P20.2: App, the greatest room", 65535, a, 0, 65532-width)
		leaves(t, "P20.2: App, any room", math.MaxInt, a, 0, math.MaxInt-3-width)
		leaves(t, "P20.2: App, any room, behind much", math.MaxInt, a, math.MaxInt-3-width-1, 1)
	}
}

// Number and Payload aren't looked at.
func TestRoomWhateverNumberAndPayload(t *testing.T) {
	for _, number := range []int64{math.MinInt64, -1, 0, last, last + 1, math.MaxInt64} {
		for _, payload := range []string{"", "p", strings.Repeat("p", 16383), strings.Repeat("p", 70000)} {
			for _, p := range []api.Packet{packetI(), packetA()} {
				p.Number, p.Payload = number, []byte(payload)
				want := map[int]int{api.Initial: 1186, api.App: 1196}[p.Space]
				leaves(t, "P20.2", 1200, p, 0, want)
			}
		}
	}
}

func TestRoomOfWhatOverheadRefuses(t *testing.T) {
	src := packetA()
	src.Src = []byte("s")
	l := []api.Packet{src}
	for space := range api.Spaces {
		p := of(space, "", "", 1, 1, "")
		l = append(l, wide(p, 0), wide(p, 5), wide(p, -1), wide(p, math.MinInt), wide(p, math.MaxInt), of(space, many, "", 1, 1, ""), of(space, "", many, 1, 1, ""))
	}
	for _, space := range []int{-1, 3, math.MinInt, math.MaxInt} {
		l = append(l, of(space, "", "", 1, 1, ""))
	}
	for _, p := range l {
		for _, room := range []int{0, 1, 1200, 65535, math.MaxInt} {
			leaves(t, "P20.2: refused", room, p, 0, 0)
		}
	}
}

func TestRoomOfWrongNumbers(t *testing.T) {
	for _, p := range []api.Packet{packetI(), packetH(), packetA()} {
		for _, room := range []int{math.MinInt, -1, 0, 1, 1200, 65536, math.MaxInt} {
			for _, ahead := range []int{math.MinInt, math.MinInt + 1, -1200, -1} {
				leaves(t, "P20.2: ahead below 0", room, p, ahead, 0)
			}
			leaves(t, "P20.2: much ahead", room, p, math.MaxInt, 0)
		}
		for _, room := range []int{math.MinInt, -1, 0} {
			for _, ahead := range []int{0, 1, 1200, math.MaxInt} {
				leaves(t, "P20.2: no room", room, p, ahead, 0)
			}
		}
	}
}
