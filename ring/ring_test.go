package ring

import (
	"slices"
	"testing"

	"narthex/api"
)

// filled is a ring with room for so many, with these things in it.
func filled(t *testing.T, room int, things ...int) *Ring[int] {
	t.Helper()
	r := New[int](room)
	for _, x := range things {
		if !r.Push(x) {
			t.Fatalf("room %d: no room for %d", room, x)
		}
	}
	return r
}

// wantRing holds all that is told of a ring against the things that it has, and the room that it had for them.
func wantRing(t *testing.T, r *Ring[int], room int, want ...int) {
	t.Helper()
	if r.Len() != len(want) || r.Room() != room-len(want) {
		t.Errorf("len %d, room %d: want %d, %d", r.Len(), r.Room(), len(want), room-len(want))
	}
	if got := r.All(); !slices.Equal(got, want) {
		t.Errorf("all: got %v, want %v", got, want)
	}
	for at, x := range want {
		got, ok := r.At(at)
		wantThing(t, got, ok, x, true)
	}
	for _, at := range []int{api.MinInt, -len(want) - 1, -2, -1, len(want), len(want) + 1, api.MaxInt} {
		got, ok := r.At(at)
		wantThing(t, got, ok, 0, false)
	}
}

func wantThing(t *testing.T, got int, ok bool, want int, wantOK bool) {
	t.Helper()
	if got != want || ok != wantOK {
		t.Errorf("got %d, %v: want %d, %v", got, ok, want, wantOK)
	}
}

func TestNew(t *testing.T) { // P2.1
	for _, x := range []struct{ room, want int }{
		{api.MinInt, 0},
		{-5, 0},
		{-1, 0},
		{0, 0},
		{1, 1},
		{2, 2},
		{999, 999},
		{1000, 1000},
		{1001, 1000},
		{5000, 1000},
		{api.MaxInt, 1000},
	} {
		wantRing(t, New[int](x.room), x.want)
	}
}

func TestRoomIsAsManyAsFit(t *testing.T) { // P2.1, P2.2
	for _, x := range []struct{ room, want int }{
		{api.MinInt, 0},
		{-1, 0},
		{0, 0},
		{1, 1},
		{2, 2},
		{999, 999},
		{1000, 1000},
		{1001, 1000},
		{api.MaxInt, 1000},
	} {
		r := New[int](x.room)
		var in []int
		for i := range 1200 {
			if ok := r.Push(i + 1); ok != (i < x.want) {
				t.Fatalf("room %d: push %d: %v", x.room, i, ok)
			}
			if i < x.want {
				in = append(in, i+1)
			}
		}
		wantRing(t, r, x.want, in...)
	}
}

func TestTold(t *testing.T) { // P2.1
	wantRing(t, filled(t, 3), 3)
	wantRing(t, filled(t, 3, 7), 3, 7)
	wantRing(t, filled(t, 3, 7, 0), 3, 7, 0)
	wantRing(t, filled(t, 3, 7, 0, 7), 3, 7, 0, 7)
	wantRing(t, filled(t, 2, api.MinInt, api.MaxInt), 2, api.MinInt, api.MaxInt)
}

func TestExample(t *testing.T) { // P2.2
	r := New[int](2)
	if !r.Push(5) || !r.Push(6) || r.Push(7) {
		t.Error("push: two find room, and the third one none")
	}
	wantRing(t, r, 2, 5, 6)
	x, ok := r.Pop()
	wantThing(t, x, ok, 5, true)
	if !r.Push(7) {
		t.Error("no room for what came ahead of nothing")
	}
	wantRing(t, r, 2, 6, 7)
}

func TestPushWithoutRoom(t *testing.T) { // P2.2
	r := filled(t, 3, 1, 2, 3)
	for range 3 {
		if r.Push(9) {
			t.Error("room where there is none")
		}
		wantRing(t, r, 3, 1, 2, 3)
	}
	none := filled(t, 0)
	if none.Push(9) {
		t.Error("room in a ring for nothing")
	}
	wantRing(t, none, 0)
}

func TestPop(t *testing.T) { // P2.2
	r := filled(t, 3, 4, 0, 4)
	for i, x := range []int{4, 0, 4} {
		got, ok := r.Pop()
		wantThing(t, got, ok, x, true)
		wantRing(t, r, 3, []int{4, 0, 4}[i+1:]...)
	}
	for range 2 {
		got, ok := r.Pop()
		wantThing(t, got, ok, 0, false)
		wantRing(t, r, 3)
	}
	if !r.Push(8) {
		t.Error("no room behind nothing")
	}
	wantRing(t, r, 3, 8)
}

func TestCut(t *testing.T) { // P2.2
	for _, x := range []struct {
		at   int
		got  int
		ok   bool
		left []int
	}{
		{api.MinInt, 0, false, []int{1, 2, 3, 4}},
		{-4, 0, false, []int{1, 2, 3, 4}},
		{-1, 0, false, []int{1, 2, 3, 4}},
		{0, 1, true, []int{2, 3, 4}},
		{1, 2, true, []int{1, 3, 4}},
		{2, 3, true, []int{1, 2, 4}},
		{3, 4, true, []int{1, 2, 3}},
		{4, 0, false, []int{1, 2, 3, 4}},
		{5, 0, false, []int{1, 2, 3, 4}},
		{api.MaxInt, 0, false, []int{1, 2, 3, 4}},
	} {
		r := filled(t, 5, 1, 2, 3, 4)
		got, ok := r.Cut(x.at)
		wantThing(t, got, ok, x.got, x.ok)
		wantRing(t, r, 5, x.left...)
	}
	got, ok := New[int](5).Cut(0)
	wantThing(t, got, ok, 0, false)
}

func TestCutMakesRoom(t *testing.T) { // P2.2
	for at := range 3 {
		r := filled(t, 3, 1, 2, 3)
		r.Cut(at)
		left := slices.Delete([]int{1, 2, 3}, at, at+1)
		if !r.Push(9) || r.Push(10) {
			t.Error("cut", at, ": room for one is what it makes")
		}
		wantRing(t, r, 3, append(left, 9)...)
	}
}

// plain is a ring as the chapter tells it, without package ring.
type plain struct {
	room   int
	things []int
}

func (p *plain) push(x int) bool {
	if len(p.things) >= p.room {
		return false
	}
	p.things = append(slices.Clone(p.things), x)
	return true
}

func (p *plain) cut(at int) (int, bool) {
	var left []int
	x, found := 0, false
	for i, y := range p.things {
		if i == at {
			x, found = y, true
		} else {
			left = append(left, y)
		}
	}
	p.things = left
	return x, found
}

// stepBoth does one of six acts to a ring and to a plain one, and holds their answers against each other.
func stepBoth(t *testing.T, r *Ring[int], p *plain, act, x int) {
	t.Helper()
	switch act {
	case 0, 1:
		if ok := r.Push(x); ok != p.push(x) {
			t.Errorf("push %d: %v", x, ok)
		}
	case 2:
		want, wantOK := p.cut(0)
		got, ok := r.Pop()
		wantThing(t, got, ok, want, wantOK)
	default:
		want, wantOK := p.cut(act - 3)
		got, ok := r.Cut(act - 3)
		wantThing(t, got, ok, want, wantOK)
	}
	wantRing(t, r, p.room, p.things...)
}

func TestAllShortRowsOfActs(t *testing.T) { // P2.1, P2.2
	const acts, long = 6, 6
	rows := 1
	for range long {
		rows *= acts
	}
	for room := range 4 {
		for row := range rows {
			r, p := New[int](room), &plain{room: room}
			for i, left := 0, row; i < long; i++ {
				stepBoth(t, r, p, left%acts, i+1)
				left /= acts
			}
			if t.Failed() {
				t.Fatalf("room %d, row %d", room, row)
			}
		}
	}
}

func TestLongRowOfActs(t *testing.T) { // P2.1, P2.2
	for _, room := range []int{1, 7, 40} {
		r, p := New[int](room), &plain{room: room}
		for i, turn := 0, uint32(1); i < 5000; i++ {
			turn = turn*1664525 + 1013904223
			stepBoth(t, r, p, int(turn>>16%6), i+1)
		}
	}
}

func TestPoppedInTheOrderOfPushes(t *testing.T) { // P2.3
	for _, room := range []int{1, 2, 3, 10, 1000} {
		r := New[int](room)
		pushed, popped := 0, 0
		for round := range 200 {
			for range round {
				if r.Push(pushed) {
					pushed++
				}
			}
			for range round/2 + 1 {
				if x, ok := r.Pop(); ok {
					wantThing(t, x, ok, popped, true)
					popped++
				}
			}
			if pushed-popped != r.Len() {
				t.Fatalf("room %d: %d pushed, %d popped, %d left", room, pushed, popped, r.Len())
			}
		}
		if popped < 199 {
			t.Errorf("room %d: only %d popped", room, popped)
		}
	}
}

func TestAllIsNewMemory(t *testing.T) { // the rules that hold everywhere
	r := filled(t, 6, 1, 2, 3)
	r.Pop()
	all := r.All()
	for i := range all[:cap(all)] {
		all[:cap(all)][i] = 99
	}
	_ = append(all, 98)
	wantRing(t, r, 6, 2, 3)
	was := r.All()
	r.Push(4)
	r.Cut(0)
	r.Push(5)
	if !slices.Equal(was, []int{2, 3}) {
		t.Error("an answer changed:", was)
	}
	one, other := r.All(), r.All()
	one[0] = 99
	if !slices.Equal(other, []int{3, 4, 5}) {
		t.Error("two answers share memory:", other)
	}
	wantRing(t, r, 6, 3, 4, 5)
	none := New[int](2)
	_ = append(none.All(), 9)
	wantRing(t, none, 2)
}

func TestRingsShareNothing(t *testing.T) { // the rules that hold everywhere
	a, b := filled(t, 3, 1, 2), filled(t, 3, 1, 2)
	a.Push(3)
	a.Cut(0)
	wantRing(t, a, 3, 2, 3)
	wantRing(t, b, 3, 1, 2)
}

func TestTakenIsntKept(t *testing.T) { // the language's rule 8: no more is kept than is needed
	r := New[*int](10)
	for i := range 10 {
		r.Push(&i)
	}
	r.Pop()
	r.Cut(8)
	r.Cut(3)
	for _, p := range r.things[len(r.things):cap(r.things)] {
		if p != nil {
			t.Error("a thing that was taken is kept:", *p)
		}
	}
	if r.Len() != 7 {
		t.Error("len", r.Len())
	}
}

type pair struct {
	text string
	list []int
}

func TestThingsOfAnyType(t *testing.T) { // P2.1, P2.2, of other types
	texts := New[string](2)
	if x, ok := texts.Pop(); x != "" || ok {
		t.Error("pop:", x)
	}
	texts.Push("a")
	texts.Push("")
	if x, ok := texts.At(1); x != "" || !ok || texts.Push("b") {
		t.Error("a text of nothing is a thing too")
	}
	if !slices.Equal(texts.All(), []string{"a", ""}) {
		t.Error("all:", texts.All())
	}
	pairs := New[pair](3)
	pairs.Push(pair{"x", []int{1}})
	pairs.Push(pair{"y", []int{2, 3}})
	if p, ok := pairs.Cut(1); !ok || p.text != "y" || !slices.Equal(p.list, []int{2, 3}) {
		t.Error("cut:", p)
	}
	if p, ok := pairs.Cut(1); ok || p.text != "" || p.list != nil {
		t.Error("cut of none:", p)
	}
	acts := New[func() int](1)
	acts.Push(func() int { return 7 })
	if f, ok := acts.Pop(); !ok || f() != 7 {
		t.Error("pop of a function")
	}
	if f, ok := acts.At(0); ok || f != nil {
		t.Error("at of none")
	}
}
