package set

import (
	"slices"
	"testing"

	"narthex/api"
)

// numbers are those that the rows of these tests are made of: the ends of all numbers, and some that are side by side.
var numbers = []int{api.MinInt, -1, 0, 1, 2, api.MaxInt}

// rows are all rows of up to so many of the numbers: with those that repeat, that don't rise, and that of none.
func rows(most int) [][]int {
	all := [][]int{nil}
	for from, n := 0, 0; n < most; n++ {
		to := len(all)
		for _, l := range all[from:to] {
			for _, x := range numbers {
				all = append(all, append(slices.Clone(l), x))
			}
		}
		from = to
	}
	return all
}

// isIn is whether x is one of l, told without package set.
func isIn(l []int, x int) bool {
	for _, y := range l {
		if y == x {
			return true
		}
	}
	return false
}

// chosen are those of the numbers, which rise, of which is holds.
func chosen(is func(x int) bool) []int {
	var s []int
	for _, x := range numbers {
		if is(x) {
			s = append(s, x)
		}
	}
	return s
}

func wantSet(t *testing.T, call string, got, want []int) {
	t.Helper()
	if !slices.Equal(got, want) {
		t.Errorf("%s: got %v, want %v", call, got, want)
	}
}

func TestOf(t *testing.T) { // P1.1
	for _, x := range []struct{ l, want []int }{
		{nil, nil},
		{[]int{}, nil},
		{[]int{7}, []int{7}},
		{[]int{3, 1, 3}, []int{1, 3}},
		{[]int{1, 2, 3}, []int{1, 2, 3}},
		{[]int{3, 2, 1}, []int{1, 2, 3}},
		{[]int{4, 4, 4}, []int{4}},
		{[]int{0, api.MaxInt, -1, api.MinInt, 0}, []int{api.MinInt, -1, 0, api.MaxInt}},
	} {
		wantSet(t, "of", Of(x.l...), x.want)
	}
	wantSet(t, "of nothing", Of(), nil)
	wantSet(t, "of parts", Of(3, 1, 3), []int{1, 3})
	for _, l := range rows(4) {
		wantSet(t, "of", Of(l...), chosen(func(x int) bool { return isIn(l, x) }))
	}
}

func TestValid(t *testing.T) { // P1.1
	for _, x := range []struct {
		l    []int
		want bool
	}{
		{nil, true},
		{[]int{}, true},
		{[]int{api.MinInt}, true},
		{[]int{1, 2, 5}, true},
		{[]int{api.MinInt, 0, api.MaxInt}, true},
		{[]int{1, 1}, false},
		{[]int{2, 1}, false},
		{[]int{1, 2, 2}, false},
		{[]int{1, 3, 2}, false},
		{[]int{2, 1, 3}, false},
		{[]int{1, 1, 2}, false},
		{[]int{api.MaxInt, api.MinInt}, false},
	} {
		if got := Valid(x.l); got != x.want {
			t.Errorf("valid %v: got %v", x.l, got)
		}
	}
	for _, l := range rows(4) {
		if want := slices.Equal(l, chosen(func(x int) bool { return isIn(l, x) })); Valid(l) != want {
			t.Errorf("valid %v: want %v", l, want)
		}
	}
}

func TestHasAndPlace(t *testing.T) { // P1.1
	for _, x := range []struct {
		l     []int
		x     int
		has   bool
		place int
	}{
		{nil, 0, false, 0},
		{[]int{}, 5, false, 0},
		{[]int{3}, 3, true, 0},
		{[]int{1, 3, 5}, 4, false, 2},
		{[]int{1, 3, 5}, 9, false, 3},
		{[]int{5, 1, 1}, 5, true, 1},
		{[]int{5, 1, 1, 3}, 4, false, 2},
		{[]int{9, 8, 7}, 9, true, 2},
		{[]int{api.MinInt, api.MaxInt}, api.MinInt, true, 0},
		{[]int{api.MinInt, api.MaxInt}, api.MaxInt, true, 1},
	} {
		if Has(x.l, x.x) != x.has || Place(x.l, x.x) != x.place {
			t.Errorf("%v, %d: has %v, place %d", x.l, x.x, Has(x.l, x.x), Place(x.l, x.x))
		}
	}
	for _, l := range rows(4) {
		for _, x := range numbers {
			less := chosen(func(y int) bool { return y < x && isIn(l, y) })
			if Has(l, x) != isIn(l, x) || Place(l, x) != len(less) {
				t.Errorf("%v, %d: has %v, place %d", l, x, Has(l, x), Place(l, x))
			}
		}
	}
}

func TestAddAndDel(t *testing.T) { // P1.2
	wantSet(t, "add", Add(Of(3, 1, 3), 2), []int{1, 2, 3})
	wantSet(t, "add to none", Add(nil, 2), []int{2})
	wantSet(t, "add what is there", Add([]int{1, 2}, 2), []int{1, 2})
	wantSet(t, "add to no set", Add([]int{3, 1, 3}, 3), []int{1, 3})
	wantSet(t, "del", Del([]int{1, 2, 3}, 2), []int{1, 3})
	wantSet(t, "del of none", Del(nil, 2), nil)
	wantSet(t, "del what isn't there", Del([]int{3, 1}, 2), []int{1, 3})
	wantSet(t, "del what repeats", Del([]int{2, 1, 2, 2}, 2), []int{1})
	wantSet(t, "del the last one", Del([]int{2, 2}, 2), nil)
	for _, l := range rows(4) {
		for _, x := range numbers {
			wantSet(t, "add", Add(l, x), chosen(func(y int) bool { return y == x || isIn(l, y) }))
			wantSet(t, "del", Del(l, x), chosen(func(y int) bool { return y != x && isIn(l, y) }))
		}
	}
}

func TestOfTwo(t *testing.T) { // P1.2
	wantSet(t, "union", Union([]int{4, 1, 4}, []int{2, 4}), []int{1, 2, 4})
	wantSet(t, "both", Both([]int{4, 1, 4}, []int{2, 4, 2}), []int{4})
	wantSet(t, "minus", Minus([]int{4, 3, 1, 3}, []int{4, 2}), []int{1, 3})
	all := rows(3)
	for _, a := range all {
		for _, b := range all {
			wantSet(t, "union", Union(a, b), chosen(func(x int) bool { return isIn(a, x) || isIn(b, x) }))
			wantSet(t, "both", Both(a, b), chosen(func(x int) bool { return isIn(a, x) && isIn(b, x) }))
			minus := chosen(func(x int) bool { return isIn(a, x) && !isIn(b, x) })
			wantSet(t, "minus", Minus(a, b), minus)
			if Within(a, b) != (len(minus) == 0) {
				t.Errorf("%v within %v: %v", a, b, Within(a, b))
			}
		}
	}
}

func TestWithin(t *testing.T) { // P1.2
	for _, x := range []struct {
		a, b []int
		want bool
	}{
		{nil, nil, true},
		{[]int{}, nil, true},
		{nil, []int{1}, true},
		{[]int{1}, nil, false},
		{[]int{1, 1}, []int{1}, true},
		{[]int{3, 1}, []int{1, 2, 3}, true},
		{[]int{3, 1}, []int{3, 2, 1, 2}, true},
		{[]int{1, 2, 3}, []int{1, 3}, false},
		{[]int{1, 4}, []int{1, 3}, false},
	} {
		if got := Within(x.a, x.b); got != x.want {
			t.Errorf("%v within %v: %v", x.a, x.b, got)
		}
	}
}

func TestAnswersAreSets(t *testing.T) { // P1.3
	all := rows(3)
	for _, a := range all {
		for _, x := range numbers {
			if !Valid(Of(a...)) || !Valid(Add(a, x)) || !Valid(Del(a, x)) {
				t.Errorf("%v, %d: no set", a, x)
			}
		}
		for _, b := range all {
			if !Valid(Union(a, b)) || !Valid(Both(a, b)) || !Valid(Minus(a, b)) {
				t.Errorf("%v, %v: no set", a, b)
			}
		}
	}
}

func TestSameIfWithinEachOther(t *testing.T) { // P1.3
	all := rows(3)
	for _, a := range all {
		for _, b := range all {
			if same := Within(a, b) && Within(b, a); same != slices.Equal(Of(a...), Of(b...)) {
				t.Errorf("%v, %v: within each other %v", a, b, same)
			}
		}
	}
}

// roomy is a row of l that has spare room, and the whole of its memory.
func roomy(l []int) (row, whole []int) {
	whole = append(slices.Clone(l), 77, -77, 77, 0)
	return whole[:len(l)], whole
}

// answers are what all calls that tell sets tell of these.
func answers(a, b []int, x int) [][]int {
	return [][]int{Of(a...), Add(a, x), Del(a, x), Union(a, b), Both(a, b), Minus(a, b)}
}

func TestHandedInStays(t *testing.T) { // the rules that hold everywhere
	all := rows(3)
	for _, l := range all {
		for _, k := range [][]int{nil, {2}, {2, 0, 2}, {1, 0, -1}} {
			a, wholeA := roomy(l)
			b, wholeB := roomy(k)
			wasA, wasB := slices.Clone(wholeA), slices.Clone(wholeB)
			answers(a, b, 1)
			Valid(a)
			Has(a, 1)
			Place(a, 1)
			Within(a, b)
			if !slices.Equal(wholeA, wasA) || !slices.Equal(wholeB, wasB) {
				t.Errorf("%v, %v: changed to %v, %v", wasA, wasB, wholeA, wholeB)
			}
		}
	}
}

func TestAnswersAreNewMemory(t *testing.T) { // the rules that hold everywhere
	for _, l := range rows(3) {
		a, wholeA := roomy(l)
		b, wholeB := roomy([]int{0, 1})
		wasA, wasB := slices.Clone(wholeA), slices.Clone(wholeB)
		got := answers(a, b, 5)
		for _, s := range got {
			s = s[:cap(s)]
			for i := range s {
				s[i] = 99
			}
		}
		if !slices.Equal(wholeA, wasA) || !slices.Equal(wholeB, wasB) {
			t.Errorf("%v, %v: shared by an answer", wasA, wasB)
		}
		for i, s := range answers(a, b, 5) {
			was := slices.Clone(s)
			for _, whole := range [][]int{wholeA, wholeB} {
				for j := range whole {
					whole[j]++
				}
			}
			if !slices.Equal(s, was) {
				t.Errorf("answer %d shares what was handed in", i)
			}
		}
	}
}

func TestManyNumbers(t *testing.T) { // P1: every call ends, at rows of many numbers too
	const n = 300000
	falling := make([]int, n)
	for i := range falling {
		falling[i] = (n - i) / 2
	}
	s := Of(falling...)
	if len(s) != n/2+1 || !Valid(s) || Place(falling, n) != len(s) {
		t.Error("of many:", len(s))
	}
	if !Within(falling, s) || !slices.Equal(Both(falling, s), s) || len(Minus(s, falling)) != 0 || !slices.Equal(Union(falling, s), s) {
		t.Error("of many and many")
	}
}
