package net

import (
	"fmt"
	"math"
	"math/big"
	"slices"
	"strings"
	"testing"
	"unsafe"

	"narthex/api"
)

// plain is a net as the chapter tells it: of all rows of bytes one list, each with its two nodes.
type plain struct {
	n, room int
	sent    []plainRow
}

type plainRow struct {
	from, to int
	b        string
}

func newPlain(n, room int) *plain {
	p := &plain{n: n, room: room}
	if n < 0 {
		p.n = 0
	}
	if n > 64 {
		p.n = 64
	}
	if room < 0 {
		p.room = 0
	}
	if room > 1000 {
		p.room = 1000
	}
	return p
}

func (p *plain) twoNodes(from, to int) bool {
	return from >= 0 && from < p.n && to >= 0 && to < p.n && from != to
}

// places are where in the list the rows of two nodes stand.
func (p *plain) places(from, to int) []int {
	var l []int
	for i, r := range p.sent {
		if r.from == from && r.to == to {
			l = append(l, i)
		}
	}
	return l
}

func (p *plain) send(from, to int, b string) bool {
	if !p.twoNodes(from, to) || len(p.places(from, to)) >= p.room {
		return false
	}
	p.sent = append(p.sent, plainRow{from, to, b})
	return true
}

func (p *plain) look(from, to, k int) (string, bool) {
	l := p.places(from, to)
	if k < 0 || k >= len(l) {
		return "", false
	}
	return p.sent[l[k]].b, true
}

func (p *plain) deliver(from, to, k int) (string, bool) {
	b, ok := p.look(from, to, k)
	if ok {
		at := p.places(from, to)[k]
		p.sent = append(p.sent[:at:at], p.sent[at+1:]...)
	}
	return b, ok
}

func (p *plain) double(from, to, k int) bool {
	b, ok := p.look(from, to, k)
	return ok && p.send(from, to, b)
}

func (p *plain) flip(from, to, k, bit int) bool {
	b, ok := p.look(from, to, k)
	if !ok || b == "" {
		return false
	}
	p.sent[p.places(from, to)[k]].b = turned(b, bit)
	return true
}

// turned is bytes, of which there are some, with the bit of a number turned: they are told as 0 and 1, the lowest bit of each first.
func turned(b string, bit int) string {
	var bits []byte
	for i := range len(b) {
		for weight := 1; weight < 256; weight *= 2 {
			bits = append(bits, byte(int(b[i])/weight%2))
		}
	}
	at := 0
	if bit != math.MinInt64 {
		without := new(big.Int).Abs(big.NewInt(int64(bit)))
		at = int(without.Mod(without, big.NewInt(int64(len(bits)))).Int64())
	}
	bits[at] = 1 - bits[at]
	out := make([]byte, len(b))
	for i := range bits {
		out[i/8] += bits[i] * byte(math.Pow(2, float64(i%8)))
	}
	return string(out)
}

// chances tells numbers below others, always the same ones.
func chances() func(below int) int {
	seed := uint64(8)
	return func(below int) int {
		seed = seed*6364136223846793005 + 1442695040888963407
		return int(seed>>33) % below
	}
}

// farNumbers are no nodes and no places of anything.
func farNumbers() []int {
	return []int{-1, -2, 64, 65, 1000, 1<<32 + 1, 1 << 32, math.MaxInt64, math.MinInt64, math.MinInt64 + 1}
}

// wantSame ends the test if a net isn't, in all that it tells, as a plain one, at the nodes from -1 up to one behind n.
func wantSame(t *testing.T, x *Net, p *plain, what string) {
	t.Helper()
	if x.Quiet() != (len(p.sent) == 0) {
		t.Fatalf("%s: quiet is %v, of %v", what, x.Quiet(), p.sent)
	}
	for from := -1; from <= p.n; from++ {
		for to := -1; to <= p.n; to++ {
			count := len(p.places(from, to))
			if got := x.Count(from, to); got != count {
				t.Fatalf("%s: count of %d, %d: got %d, want %d", what, from, to, got, count)
			}
			for k := -1; k <= count; k++ {
				wantS, wantOK := p.look(from, to, k)
				if s, ok := x.Look(from, to, k); s != wantS || ok != wantOK {
					t.Fatalf("%s: look at %d, %d, %d: got %q, %v, want %q, %v", what, from, to, k, s, ok, wantS, wantOK)
				}
			}
		}
	}
}

// wantAll holds what is on its way from a node to another one against rows of bytes.
func wantAll(t *testing.T, x *Net, from, to int, want ...string) {
	t.Helper()
	var got []string
	for k := range x.Count(from, to) {
		s, ok := x.Look(from, to, k)
		if !ok {
			t.Fatalf("%d, %d: nothing at %d", from, to, k)
		}
		got = append(got, s)
	}
	if !slices.Equal(got, want) {
		t.Fatalf("%d, %d: got %q, want %q", from, to, got, want)
	}
}

// netOf is a net of two nodes with some rows of bytes from 0 to 1.
func netOf(t *testing.T, room int, rows ...string) *Net {
	t.Helper()
	x := New(2, room)
	for _, b := range rows {
		if !x.Send(0, 1, b) {
			t.Fatalf("%q has no room", b)
		}
	}
	return x
}

func TestNewHasNothingOnItsWay(t *testing.T) { // P8.1
	for _, n := range append(farNumbers(), 0, 1, 2, 3, 63) {
		for _, room := range []int{-5, 0, 1, 5} {
			x := New(n, room)
			wantSame(t, x, newPlain(n, room), fmt.Sprintf("net of %d, %d", n, room))
		}
	}
}

func TestHowManyNodes(t *testing.T) { // P8.1
	for n, want := range map[int]int{math.MinInt64: 0, -64: 0, -1: 0, 0: 0, 1: 1, 2: 2, 3: 3, 63: 63, 64: 64, 65: 64, 500: 64, 1<<32 + 2: 64, math.MaxInt64: 64} {
		x := New(n, 1)
		for from := -2; from < 70; from++ {
			for to := -2; to < 70; to++ {
				two := from >= 0 && from < want && to >= 0 && to < want && from != to
				if x.Send(from, to, "a") != two {
					t.Fatalf("net of %d: send from %d to %d: want %v", n, from, to, two)
				}
			}
		}
	}
}

func TestHowMuchRoom(t *testing.T) { // P8.1, P8.2: each two have their own
	for room, want := range map[int]int{math.MinInt64: 0, -1: 0, 0: 0, 1: 1, 2: 2, 3: 3, 8: 8, 999: 999, 1000: 1000, 1001: 1000, 1<<32 + 2: 1000, math.MaxInt64: 1000} {
		x := New(3, room)
		for from := range 3 {
			for to := range 3 {
				if from == to {
					continue
				}
				for i := range want + 2 {
					if x.Send(from, to, "a") != (i < want) {
						t.Fatalf("net of room %d: send %d from %d to %d: want %v", room, i, from, to, i < want)
					}
				}
				if x.Count(from, to) != want || want > 0 && x.Double(from, to, 0) {
					t.Fatalf("net of room %d: %d from %d to %d", room, x.Count(from, to), from, to)
				}
			}
		}
	}
}

func TestNoTwoNodes(t *testing.T) { // P8.1: whatever is asked of them, and nothing happens
	x, p := New(3, 4), newPlain(3, 4)
	for from := range 3 {
		for to := range 3 {
			for _, b := range []string{"a", "b"} {
				x.Send(from, to, b)
				p.send(from, to, b)
			}
		}
	}
	wrong := [][2]int{{0, 0}, {1, 1}, {2, 2}, {3, 3}, {0, 3}, {3, 0}, {-1, 3}, {-1, -1}}
	for _, far := range farNumbers() {
		wrong = append(wrong, [2]int{0, far}, [2]int{far, 1}, [2]int{far, far}, [2]int{far, far + 1})
	}
	for _, w := range wrong {
		from, to := w[0], w[1]
		if x.Send(from, to, "c") || x.Send(from, to, "") || x.Count(from, to) != 0 {
			t.Errorf("from %d to %d", from, to)
		}
		for _, k := range append(farNumbers(), 0, 1) {
			look, looked := x.Look(from, to, k)
			deliver, delivered := x.Deliver(from, to, k)
			if look+deliver != "" || looked || delivered || x.Double(from, to, k) || x.Flip(from, to, k, 0) {
				t.Errorf("from %d to %d, place %d", from, to, k)
			}
		}
		wantSame(t, x, p, fmt.Sprint(w))
	}
}

func TestNoSuchPlace(t *testing.T) { // P8.1, P8.2
	for _, k := range append(farNumbers(), 2, 3, 4) {
		x := netOf(t, 4, "a", "b")
		look, looked := x.Look(0, 1, k)
		deliver, delivered := x.Deliver(0, 1, k)
		if look+deliver != "" || looked || delivered || x.Double(0, 1, k) || x.Flip(0, 1, k, 0) {
			t.Errorf("place %d", k)
		}
		wantAll(t, x, 0, 1, "a", "b")
	}
}

func TestExample(t *testing.T) { // P8.2
	x := netOf(t, 2, "a", "b")
	if x.Send(0, 1, "c") {
		t.Error("c has room")
	}
	if s, ok := x.Look(0, 1, 1); s != "b" || !ok {
		t.Errorf("place 1: %q, %v", s, ok)
	}
	wantAll(t, x, 0, 1, "a", "b")
}

func TestDeliver(t *testing.T) { // P8.2
	for k, left := range [][]string{{"b", "c", "d"}, {"a", "c", "d"}, {"a", "b", "d"}, {"a", "b", "c"}} {
		x := netOf(t, 4, "a", "b", "c", "d")
		if s, ok := x.Deliver(0, 1, k); s != "abcd"[k:k+1] || !ok {
			t.Errorf("place %d: got %q, %v", k, s, ok)
		}
		wantAll(t, x, 0, 1, left...)
		if !x.Send(0, 1, "e") || x.Send(0, 1, "f") {
			t.Errorf("place %d: there isn't room for one", k)
		}
		wantAll(t, x, 0, 1, append(left, "e")...)
	}
}

func TestEmptyBytesAreOnTheirWayToo(t *testing.T) { // P8.1, P8.2
	x := netOf(t, 3, "")
	if x.Quiet() || x.Count(0, 1) != 1 || x.Flip(0, 1, 0, 0) || x.Flip(0, 1, 0, math.MinInt64) || !x.Double(0, 1, 0) {
		t.Error("empty bytes")
	}
	wantAll(t, x, 0, 1, "", "")
	for range 2 {
		if s, ok := x.Deliver(0, 1, 0); s != "" || !ok {
			t.Errorf("got %q, %v", s, ok)
		}
	}
	if s, ok := x.Deliver(0, 1, 0); s != "" || ok || !x.Quiet() {
		t.Errorf("got %q, %v", s, ok)
	}
}

func TestDouble(t *testing.T) { // P8.2
	x := netOf(t, 4, "a", "b")
	if !x.Double(0, 1, 0) || !x.Double(0, 1, 1) || x.Double(0, 1, 0) || x.Double(0, 1, 3) {
		t.Error("double")
	}
	wantAll(t, x, 0, 1, "a", "b", "a", "b")
	if x.Count(1, 0) != 0 {
		t.Error("doubled the other way round")
	}
}

func TestDoubledBytesAreTurnedAlone(t *testing.T) { // P8.2
	for k, want := range [][]string{{"`b", "ab"}, {"ab", "`b"}} {
		x := netOf(t, 2, "ab")
		if !x.Double(0, 1, 0) || !x.Flip(0, 1, k, 0) {
			t.Error("double and flip")
		}
		wantAll(t, x, 0, 1, want...)
	}
}

func TestFlip(t *testing.T) { // P8.2
	for _, x := range []struct {
		b    string
		bit  int
		want string
	}{
		{"\x00", 0, "\x01"},
		{"\x00", 1, "\x02"},
		{"\x00", 7, "\x80"},
		{"\x00", 8, "\x01"},
		{"\x00", -1, "\x02"},
		{"\x00", -8, "\x01"},
		{"\xff", 7, "\x7f"},
		{"\xff", -15, "\x7f"},
		{"\x00\x00", 8, "\x00\x01"},
		{"\x00\x00", 15, "\x00\x80"},
		{"\x00\x00", 16, "\x01\x00"},
		{"\x00\x00", -9, "\x00\x02"},
		{"ab", -9, "a`"},
		{"\x00\x00\x00", 24, "\x01\x00\x00"},
		{"\x00\x00\x00", 23, "\x00\x00\x80"},
		{"\x00\x00\x00", 32, "\x00\x01\x00"},
		{"\x00\x00\x00", math.MaxInt64, "\x80\x00\x00"},
		{"\x00\x00\x00", -math.MaxInt64, "\x80\x00\x00"},
		{"\x00\x00\x00", math.MinInt64, "\x01\x00\x00"}, // 2^63 divided by 24 would leave 8
		{"\x00\x00\x00\x00\x00", math.MinInt64, "\x01\x00\x00\x00\x00"},
		{"\x00\x00\x00", math.MinInt64 + 1, "\x80\x00\x00"},
		{"é", 3, "\xcb\xa9"},
	} {
		if turned(x.b, x.bit) != x.want {
			t.Errorf("the plain one: bit %d of %q: got %q, want %q", x.bit, x.b, turned(x.b, x.bit), x.want)
		}
		n := netOf(t, 3, "x", x.b, "y")
		if !n.Flip(0, 1, 1, x.bit) {
			t.Errorf("bit %d of %q isn't turned", x.bit, x.b)
		}
		wantAll(t, n, 0, 1, "x", x.want, "y")
		if !n.Flip(0, 1, 1, x.bit) {
			t.Errorf("bit %d of %q isn't turned again", x.bit, x.b)
		}
		wantAll(t, n, 0, 1, "x", x.b, "y")
	}
}

func TestFlipOfAllBits(t *testing.T) { // P8.2
	edges := []int{math.MaxInt64, math.MaxInt64 - 1, math.MinInt64, math.MinInt64 + 1, math.MinInt64 + 2, 1 << 32, 1<<32 - 1, -1 << 32}
	for size := 1; size < 14; size++ {
		b := strings.Repeat("\xa5\x00\xff\x1c", 4)[:size]
		try := func(bit int) {
			x := netOf(t, 1, b)
			if !x.Flip(0, 1, 0, bit) {
				t.Fatalf("bit %d of %q isn't turned", bit, b)
			}
			if s, _ := x.Look(0, 1, 0); s != turned(b, bit) {
				t.Fatalf("bit %d of %q: got %q, want %q", bit, b, s, turned(b, bit))
			}
		}
		for bit := -300; bit < 300; bit++ {
			try(bit)
		}
		for _, bit := range edges {
			try(bit)
		}
	}
}

func TestAsAPlainNet(t *testing.T) { // P8.1, P8.2: all that happens, here and there
	chance := chances()
	for round := range 300 {
		n, room := chance(6)-1, chance(7)-1
		x, p := New(n, room), newPlain(n, room)
		for step := range 200 {
			from, to, k, bit := chance(p.n+2)-1, chance(p.n+2)-1, chance(p.room+2)-1, chance(200)-100
			what := fmt.Sprintf("round %d, step %d: from %d to %d, place %d, bit %d", round, step, from, to, k, bit)
			act(t, x, p, chance(7), plainRow{from, to, strings.Repeat(string(rune('a'+chance(26))), chance(5))}, k, bit, what)
			if step%10 == 9 {
				wantSame(t, x, p, what)
			}
		}
	}
}

// act does one thing with a net and with a plain one, and ends the test if they don't answer the same.
func act(t *testing.T, x *Net, p *plain, which int, r plainRow, k, bit int, what string) {
	t.Helper()
	var got, want string
	var ok, wantOK bool
	switch which {
	case 0:
		got, ok = x.Deliver(r.from, r.to, k)
		want, wantOK = p.deliver(r.from, r.to, k)
	case 1:
		ok, wantOK = x.Double(r.from, r.to, k), p.double(r.from, r.to, k)
	case 2:
		ok, wantOK = x.Flip(r.from, r.to, k, bit), p.flip(r.from, r.to, k, bit)
	default:
		ok, wantOK = x.Send(r.from, r.to, r.b), p.send(r.from, r.to, r.b)
	}
	if got != want || ok != wantOK {
		t.Fatalf("%s: act %d: got %q, %v, want %q, %v", what, which, got, ok, want, wantOK)
	}
}

func TestWhatIsDeliveredWasSentThere(t *testing.T) { // P8.3
	chance := chances()
	x := New(4, 5)
	sent, turnedAny := map[plainRow]bool{}, map[[2]int]bool{}
	for i := range 20000 {
		from, to := chance(4), chance(4)
		switch chance(4) {
		case 0:
			r := plainRow{from, to, fmt.Sprintf("%d from %d to %d", i, from, to)}
			sent[r] = x.Send(r.from, r.to, r.b) || sent[r]
		case 1:
			x.Double(from, to, chance(5))
		case 2:
			if chance(20) == 0 && to == 0 { // the other nodes' bytes are never turned
				turnedAny[[2]int{from, to}] = x.Flip(from, to, chance(5), i) || turnedAny[[2]int{from, to}]
			}
		default:
			b, ok := x.Deliver(from, to, chance(5))
			if ok && !sent[plainRow{from, to, b}] && !turnedAny[[2]int{from, to}] {
				t.Fatalf("%q is delivered from %d to %d", b, from, to)
			}
		}
	}
}

func TestNetsShareNothing(t *testing.T) { // P1: no call knows of anything but its object
	x, y := New(2, 2), New(2, 2)
	x.Send(0, 1, "a")
	if !y.Quiet() || y.Count(0, 1) != 0 || x.Quiet() {
		t.Error("nets share what is on its way")
	}
	y.Send(1, 0, "b")
	wantAll(t, x, 0, 1, "a")
	wantAll(t, x, 1, 0)
}

func TestNewMemory(t *testing.T) { // P1: what was told stays as it was, and shares nothing with what was handed in
	b := strings.Repeat("ab", 30)
	x := netOf(t, 2, b)
	look, _ := x.Look(0, 1, 0)
	x.Flip(0, 1, 0, 0)
	again, _ := x.Look(0, 1, 0)
	taken, _ := x.Deliver(0, 1, 0)
	if look != strings.Repeat("ab", 30) || b != look || again != "`"+b[1:] || taken != again {
		t.Errorf("%q, %q, %q, %q", b, look, again, taken)
	}
	all := []string{b, look, again, taken}
	for i := range all {
		for j := range i {
			if unsafe.StringData(all[i]) == unsafe.StringData(all[j]) {
				t.Errorf("texts %d and %d share memory", j, i)
			}
		}
	}
}

func TestManyBytes(t *testing.T) { // P1: every call ends, at many bytes too
	b := strings.Repeat("\x00", 1<<22)
	x := netOf(t, api.MaxRoom, b)
	last := 8*len(b) - 1
	if !x.Flip(0, 1, 0, last) || !x.Double(0, 1, 0) || !x.Flip(0, 1, 1, -last) {
		t.Error("many bytes")
	}
	wantAll(t, x, 0, 1, b[1:]+"\x80", b)
}
