package sess

import (
	"slices"
	"testing"

	"narthex/api"
)

// waiting is a session that waits.
func waiting(id int, need ...int) api.Sess { return api.Sess{ID: id, Need: need} }

// held is a session that is granted.
func held(id, age int, need ...int) api.Sess {
	return api.Sess{ID: id, Need: need, State: api.SessGranted, Age: age}
}

// book is a book of a last id.
func book(last int, l ...api.Sess) api.Book { return api.Book{Last: last, Sess: l} }

// from are so many numbers, from one on.
func from(first, many int) []int {
	var l []int
	for i := range many {
		l = append(l, first+i)
	}
	return l
}

// full are so many sessions that wait, of the ids from 1 on.
func full(many int, need ...int) []api.Sess {
	var l []api.Sess
	for _, id := range from(1, many) {
		l = append(l, waiting(id, need...))
	}
	return l
}

// alike is whether two sessions are the same, told field by field.
func alike(a, b api.Sess) bool {
	if a.ID != b.ID || a.State != b.State || a.Age != b.Age || len(a.Need) != len(b.Need) {
		return false
	}
	for i, x := range a.Need {
		if x != b.Need[i] {
			return false
		}
	}
	return true
}

// same is whether two books are, told field by field.
func same(a, b api.Book) bool {
	if a.Last != b.Last || len(a.Sess) != len(b.Sess) {
		return false
	}
	for i, x := range a.Sess {
		if !alike(x, b.Sess[i]) {
			return false
		}
	}
	return true
}

func copyOf(b api.Book) api.Book {
	b.Sess = slices.Clone(b.Sess)
	for i, x := range b.Sess {
		b.Sess[i].Need = slices.Clone(x.Need)
	}
	return b
}

// chance tells numbers here and there, always the same ones.
type chance struct{ at uint64 }

func (c *chance) below(n int) int {
	c.at = c.at*6364136223846793005 + 1442695040888963407
	return int(c.at >> 33 % uint64(n))
}

// some are numbers that rise, each by up to so much more than the one ahead.
func some(c *chance, first, step, most int) []int {
	var l []int
	for range c.below(most + 1) {
		l = append(l, first)
		first += 1 + c.below(step)
	}
	return l
}

// samples are books here and there, that may be.
func samples(many int) []api.Book {
	c := &chance{at: 17}
	var l []api.Book
	for range many {
		b := api.Book{}
		for _, id := range some(c, 1+c.below(3), 3, api.MaxBook) {
			b.Sess = append(b.Sess, waiting(id, some(c, c.below(3), 3, 4)...))
			b.Last = id
		}
		if len(b.Sess) > 0 && c.below(2) == 0 {
			b.Sess[0].State, b.Sess[0].Age = api.SessGranted, c.below(5)
		}
		b.Last += c.below(3)
		l = append(l, b)
	}
	return l
}

// anySess are sessions of all of these.
func anySess(ids []int, needs [][]int, states []api.SessState, ages []int) []api.Sess {
	var l []api.Sess
	for _, id := range ids {
		for _, need := range needs {
			for _, state := range states {
				for _, age := range ages {
					l = append(l, api.Sess{ID: id, Need: need, State: state, Age: age})
				}
			}
		}
	}
	return l
}

// rowsOf are all books of up to so many of these sessions, of all these last ids.
func rowsOf(lasts []int, most int, of []api.Sess) []api.Book {
	rows := [][]api.Sess{nil}
	for start, n := 0, 0; n < most; n++ {
		end := len(rows)
		for _, row := range rows[start:end] {
			for _, x := range of {
				rows = append(rows, append(slices.Clone(row), x))
			}
		}
		start = end
	}
	var l []api.Book
	for _, row := range rows {
		for _, last := range lasts {
			l = append(l, book(last, row...))
		}
	}
	return l
}

// small are books of up to three sessions: most of them may not be.
func small() []api.Book {
	states := []api.SessState{api.SessWaiting, api.SessGranted}
	odd := anySess([]int{-1, 0, 1, 2}, [][]int{nil, {0}, {-1}, {1, 0}, {1, 1}}, []api.SessState{-1, 0, 1, 2}, []int{-1, 0, 1})
	l := rowsOf([]int{-1, 0, 1, 2, 3}, 1, odd)
	l = append(l, rowsOf([]int{1, 2, 3}, 2, anySess([]int{1, 2, 3}, [][]int{nil, {0, 5}}, states, []int{0, 1}))...)
	return append(l, rowsOf([]int{3, 4}, 3, anySess([]int{1, 2, 3}, [][]int{nil, {5}}, states, []int{0, 1}))...)
}

// isSet is whether numbers are a set of at most 64, none below 0, told number by number.
func isSet(l []int) bool {
	if len(l) > 64 {
		return false
	}
	for i, x := range l {
		if x < 0 || i > 0 && x <= l[i-1] {
			return false
		}
	}
	return true
}

// may is whether a book may be, told field by field.
func may(b api.Book) bool {
	if b.Last < 0 || len(b.Sess) > 8 {
		return false
	}
	for i, x := range b.Sess {
		if x.ID < 1 || x.ID > b.Last || i > 0 && x.ID <= b.Sess[i-1].ID || !isSet(x.Need) {
			return false
		}
		switch x.State {
		case api.SessWaiting:
			if x.Age != 0 {
				return false
			}
		case api.SessGranted:
			if i > 0 || x.Age < 0 {
				return false
			}
		default:
			return false
		}
	}
	return true
}

// edges are books at the edges of what may be.
func edges() []api.Book {
	l := []api.Book{
		{}, {Sess: []api.Sess{}}, book(1), book(api.MaxInt),
		book(1, waiting(1)), book(api.MaxInt, waiting(api.MaxInt)), book(api.MaxInt, waiting(1), waiting(api.MaxInt)),
		book(9, waiting(2), waiting(9)), book(9, api.Sess{ID: 3, Need: []int{}}),
		book(1, waiting(1, 0)), book(1, waiting(1, 0, api.MaxInt)), book(2, held(1, 0, 4), waiting(2, 4)),
		book(1, waiting(1, from(0, 64)...)), book(1, held(1, 7, from(api.MaxInt-63, 64)...)), book(2, waiting(1), waiting(2, from(9, 64)...)),
		book(8, full(8)...), book(99, full(8, 0, 3)...), book(8, append([]api.Sess{held(1, 0)}, full(8)[1:]...)...),
	}
	for _, age := range []int{0, 1, 1<<62 - 1, 1 << 62, 1<<62 + 1, api.MaxInt} {
		l = append(l, book(5, held(4, age)), book(5, held(4, age, 2), waiting(5, 2)))
	}
	return l
}

// mayBe are books that may be: at the edges, all small ones, and some here and there.
func mayBe() []api.Book {
	l := append(edges(), samples(300)...)
	for _, b := range small() {
		if may(b) {
			l = append(l, b)
		}
	}
	return l
}

// faultsAt are the faults that one session may have.
func faultsAt() []func(x *api.Sess) {
	return []func(x *api.Sess){
		func(x *api.Sess) { x.ID = 0 },
		func(x *api.Sess) { x.ID = -1 },
		func(x *api.Sess) { x.ID = api.MinInt },
		func(x *api.Sess) { x.ID = 100 },
		func(x *api.Sess) { x.State = -1 },
		func(x *api.Sess) { x.State = 2 },
		func(x *api.Sess) { x.State = api.MaxInt },
		func(x *api.Sess) { x.Age = -1 },
		func(x *api.Sess) { x.Age = api.MinInt },
		func(x *api.Sess) { x.State, x.Age = api.SessWaiting, 1 },
		func(x *api.Sess) { x.State, x.Age = api.SessWaiting, api.MaxInt },
		func(x *api.Sess) { x.Need = []int{-1} },
		func(x *api.Sess) { x.Need = []int{api.MinInt, 3} },
		func(x *api.Sess) { x.Need = []int{3, 3} },
		func(x *api.Sess) { x.Need = []int{4, 3} },
		func(x *api.Sess) { x.Need = []int{1, 2, 2} },
		func(x *api.Sess) { x.Need = []int{1, 5, -1} },
		func(x *api.Sess) { x.Need = from(0, 65) },
		func(x *api.Sess) { x.Need = slices.Repeat([]int{7}, 70) },
	}
}

// mayNotBe are books that may not be: with one fault, at each place, and all small ones.
func mayNotBe() []api.Book {
	l := []api.Book{
		book(-1), book(api.MinInt), book(0, waiting(1)), book(3, waiting(4)), book(3, waiting(1), waiting(4)), book(9, full(9)...),
		book(9, waiting(2), waiting(2)), book(9, waiting(3), waiting(2)), book(9, waiting(1), waiting(4), waiting(4)), book(9, waiting(1), waiting(4), waiting(3)),
		book(9, held(2, 0), held(3, 0)), book(9, waiting(2), held(3, 0)), book(9, waiting(2), waiting(3), held(4, 1)), book(9, held(2, 5), waiting(3), held(4, 5)),
	}
	for _, first := range []api.Sess{waiting(1), held(1, 3)} {
		for at := range 8 {
			for _, fault := range faultsAt() {
				b := book(99, append([]api.Sess{first}, full(8)[1:]...)...)
				fault(&b.Sess[at])
				l = append(l, b)
			}
			if at > 0 {
				b := book(99, append([]api.Sess{first}, full(8)[1:]...)...)
				b.Sess[at].State = api.SessGranted
				l = append(l, b)
			}
		}
	}
	for _, b := range small() {
		if !may(b) {
			l = append(l, b)
		}
	}
	return l
}

// act is a call: of which name, with which number (an id, a hold, a peer), and what is needed.
type act struct {
	name string
	n    int
	need []int
}

// answer is all that a call answers.
type answer struct {
	book  api.Book
	id    int
	ids   []int
	state api.SessState
	err   api.Errno
}

// call calls.
func call(b api.Book, a act) answer {
	var r answer
	switch a.name {
	case "open":
		r.book, r.err = Open(b, a.n, a.need)
	case "poll":
		r.state, r.err = Poll(b, a.n)
	case "grant":
		r.book, r.id, r.err = Grant(b)
	case "release":
		r.book, r.err = Release(b, a.n)
	case "cancel":
		r.book, r.err = Cancel(b, a.n)
	case "tick":
		r.book, r.id, r.err = Tick(b, a.n)
	case "gone":
		r.book, r.ids, r.err = Gone(b, a.n)
	}
	return r
}

func want(t *testing.T, b api.Book, a act, w answer) {
	t.Helper()
	got := call(b, a)
	if !same(got.book, w.book) || got.id != w.id || !slices.Equal(got.ids, w.ids) || got.state != w.state || got.err != w.err {
		t.Errorf("%v of %v: got %v, want %v", a, b, got, w)
	}
	if got.err != api.OK && (got.book.Sess != nil || got.ids != nil) {
		t.Errorf("%v of %v: more than an error is told: %v", a, b, got)
	}
}

// setOf is the set of numbers, told without package set.
func setOf(l []int) []int {
	var s []int
	for range l {
		found, least := false, 0
		for _, x := range l {
			if (len(s) == 0 || x > s[len(s)-1]) && (!found || x < least) {
				found, least = true, x
			}
		}
		if !found {
			break
		}
		s = append(s, least)
	}
	return s
}

// drop is a book without the session at a place.
func drop(b api.Book, at int) api.Book {
	b.Sess = append(slices.Clone(b.Sess[:at]), b.Sess[at+1:]...)
	return b
}

// plainOpen is what Open is to answer of a book that may be.
func plainOpen(b api.Book, a act) answer {
	s := setOf(a.need)
	switch {
	case a.n < 1 || a.n <= b.Last:
		return answer{err: api.ErrSessID}
	case !isSet(s):
		return answer{err: api.ErrSessNeed}
	case len(b.Sess) >= 8:
		return answer{err: api.ErrSessFull}
	}
	b.Sess = append(slices.Clone(b.Sess), api.Sess{ID: a.n, Need: s})
	b.Last = a.n
	return answer{book: b}
}

// plainOne is what Poll, Release and Cancel are to answer of a book that may be.
func plainOne(b api.Book, a act) answer {
	for at, x := range b.Sess {
		switch {
		case x.ID != a.n:
		case a.name == "poll":
			return answer{state: x.State}
		case (a.name == "release") != (x.State == api.SessGranted):
			return answer{err: api.ErrSessState}
		default:
			return answer{book: drop(b, at)}
		}
	}
	return answer{err: api.ErrSessNone}
}

// plainTick is what Tick is to answer of a book that may be.
func plainTick(b api.Book, a act) answer {
	if len(b.Sess) == 0 || b.Sess[0].State == api.SessWaiting {
		return answer{book: b}
	}
	b = copyOf(b)
	x := &b.Sess[0]
	if x.Age <= 1<<62-1 {
		x.Age++
	}
	if x.Age >= a.n {
		return answer{book: drop(b, 0), id: x.ID}
	}
	return answer{book: b}
}

// plainGone is what Gone is to answer of a book that may be.
func plainGone(b api.Book, a act) answer {
	r := answer{book: api.Book{Last: b.Last}}
	for _, x := range b.Sess {
		needs := false
		for _, peer := range x.Need {
			needs = needs || peer == a.n
		}
		if needs && x.State == api.SessWaiting {
			r.ids = append(r.ids, x.ID)
		} else {
			r.book.Sess = append(r.book.Sess, x)
		}
	}
	return r
}

// plain is what a call is to answer.
func plain(b api.Book, a act) answer {
	if !may(b) {
		return answer{err: api.ErrSessForm}
	}
	switch a.name {
	case "open":
		return plainOpen(b, a)
	case "tick":
		return plainTick(b, a)
	case "gone":
		return plainGone(b, a)
	case "grant":
		if len(b.Sess) == 0 || b.Sess[0].State != api.SessWaiting {
			return answer{err: api.ErrSessState}
		}
		b = copyOf(b)
		b.Sess[0].State = api.SessGranted
		return answer{book: b, id: b.Sess[0].ID}
	}
	return plainOne(b, a)
}

// acts are calls of all names, with numbers in a book, beside those in it, and at the ends of all numbers.
func acts(b api.Book) []act {
	numbers := []int{api.MinInt, -1, 0, 1, 2, 3, 5, 1 << 62, api.MaxInt, b.Last, b.Last + 1}
	for _, x := range b.Sess {
		numbers = append(numbers, x.ID, x.Age, x.Age+1, x.Age+2)
		if len(x.Need) > 0 {
			numbers = append(numbers, x.Need[0], x.Need[len(x.Need)-1], x.Need[len(x.Need)/2])
		}
	}
	l := []act{{name: "grant"}}
	for _, n := range setOf(numbers) {
		for _, name := range []string{"poll", "release", "cancel", "tick", "gone"} {
			l = append(l, act{name: name, n: n})
		}
		for _, need := range [][]int{nil, {4, 1, 4}, {3, -1}} {
			l = append(l, act{name: "open", n: n, need: need})
		}
	}
	return l
}

func TestExample(t *testing.T) { // P17.1, P17.2
	b, err := Open(api.Book{}, 3, nil)
	if err != api.OK || !same(b, book(3, waiting(3))) {
		t.Fatal(b, err)
	}
	b, err = Open(b, 5, nil)
	if err != api.OK || !same(b, book(5, waiting(3), waiting(5))) {
		t.Fatal(b, err)
	}
	b, id, err := Grant(b)
	if err != api.OK || id != 3 || !same(b, book(5, held(3, 0), waiting(5))) {
		t.Fatal(b, id, err)
	}
	b, err = Release(b, 3)
	if err != api.OK || !same(b, book(5, waiting(5))) {
		t.Fatal(b, err)
	}
	b, id, err = Grant(b)
	if err != api.OK || id != 5 || !same(b, book(5, held(5, 0))) {
		t.Fatal(b, id, err)
	}
}

func TestCheck(t *testing.T) { // P17.1
	for _, b := range mayBe() {
		if err := Check(b); err != api.OK {
			t.Errorf("check of %v: error %d", b, err)
		}
	}
	for _, b := range mayNotBe() {
		if err := Check(b); err != api.ErrSessForm {
			t.Errorf("check of %v: error %d", b, err)
		}
	}
}

func TestMayNotBeComesFirst(t *testing.T) { // P17.1: whatever else is wrong, and if nothing is
	for _, b := range mayNotBe() {
		for _, a := range acts(b) {
			want(t, b, a, answer{err: api.ErrSessForm})
		}
	}
}

func TestAgainstPlain(t *testing.T) { // P17.1, P17.2, P17.3
	for _, b := range mayBe() {
		for _, a := range acts(b) {
			want(t, b, a, plain(b, a))
		}
	}
}

func TestOpen(t *testing.T) { // P17.1
	b := book(6, held(2, 9, 1), waiting(5, 0))
	for _, x := range []struct {
		id        int
		need, set []int
	}{
		{7, nil, nil}, {7, []int{}, nil}, {8, []int{0}, []int{0}}, {api.MaxInt, []int{4, 1, 4}, []int{1, 4}},
		{7, []int{api.MaxInt, 0}, []int{0, api.MaxInt}}, {7, []int{3, 3, 3}, []int{3}}, {7, from(5, 64), from(5, 64)},
		{7, append(from(5, 64), from(5, 64)...), from(5, 64)}, {7, append([]int{900}, from(5, 63)...), append(from(5, 63), 900)},
	} {
		want(t, b, act{"open", x.id, x.need}, answer{book: book(x.id, held(2, 9, 1), waiting(5, 0), waiting(x.id, x.set...))})
		want(t, api.Book{}, act{"open", x.id, x.need}, answer{book: book(x.id, waiting(x.id, x.set...))})
	}
	want(t, api.Book{}, act{"open", 1, nil}, answer{book: book(1, waiting(1))})
	want(t, book(8, full(7)...), act{"open", 9, []int{2}}, answer{book: book(9, append(full(7), waiting(9, 2))...)})
}

func TestErrorsOfOpen(t *testing.T) { // P17.1: the id, then what is needed, then the room
	badIDs, goodIDs := []int{api.MinInt, -1, 0, 1, 8, 98, 99}, []int{100, 101, api.MaxInt}
	badNeeds := [][]int{{-1}, {api.MinInt}, {0, -1}, {-1, 4, 2}, from(0, 65), from(api.MaxInt-64, 65), append(from(0, 65), 3, 3), append(from(0, 64), 900), append(from(0, 63), -1), from(-1, 66)}
	goodNeeds := [][]int{nil, {0}, {2, 1}, from(0, 64)}
	for _, b := range []api.Book{book(99), book(99, waiting(4)), book(99, held(99, 0)), book(99, full(7)...), book(99, full(8)...)} {
		for _, need := range slices.Concat(badNeeds, goodNeeds) {
			for _, id := range badIDs {
				want(t, b, act{"open", id, need}, answer{err: api.ErrSessID})
			}
		}
		for _, id := range goodIDs {
			for _, need := range badNeeds {
				want(t, b, act{"open", id, need}, answer{err: api.ErrSessNeed})
			}
			for _, need := range goodNeeds {
				if len(b.Sess) == 8 {
					want(t, b, act{"open", id, need}, answer{err: api.ErrSessFull})
				}
			}
		}
	}
	for _, id := range []int{api.MinInt, -1, 0} { // below 1, though nothing was opened
		want(t, api.Book{}, act{"open", id, nil}, answer{err: api.ErrSessID})
	}
	for _, id := range []int{1, api.MaxInt} { // nothing is above the greatest one
		want(t, book(api.MaxInt), act{"open", id, nil}, answer{err: api.ErrSessID})
	}
	want(t, book(7), act{"open", 7, nil}, answer{err: api.ErrSessID}) // it was there once
}

func TestPoll(t *testing.T) { // P17.1
	b := book(9, held(2, 4, 1), waiting(5), waiting(8, 1, 2))
	for _, x := range []struct {
		id    int
		state api.SessState
		err   api.Errno
	}{
		{2, api.SessGranted, api.OK}, {5, api.SessWaiting, api.OK}, {8, api.SessWaiting, api.OK},
		{1, 0, api.ErrSessNone}, {3, 0, api.ErrSessNone}, {9, 0, api.ErrSessNone}, {10, 0, api.ErrSessNone}, {0, 0, api.ErrSessNone}, {-2, 0, api.ErrSessNone},
	} {
		want(t, b, act{"poll", x.id, nil}, answer{state: x.state, err: x.err})
	}
	want(t, api.Book{}, act{"poll", 0, nil}, answer{err: api.ErrSessNone})
}

func TestGrant(t *testing.T) { // P17.2
	want(t, book(9, waiting(4, 1), waiting(5)), act{name: "grant"}, answer{book: book(9, held(4, 0, 1), waiting(5)), id: 4})
	want(t, book(9, waiting(9)), act{name: "grant"}, answer{book: book(9, held(9, 0)), id: 9})
	want(t, book(9, held(4, 0)), act{name: "grant"}, answer{err: api.ErrSessState})
	want(t, book(9, held(4, 3), waiting(5), waiting(6)), act{name: "grant"}, answer{err: api.ErrSessState}) // no other one, either
	want(t, book(9), act{name: "grant"}, answer{err: api.ErrSessState})
	want(t, api.Book{}, act{name: "grant"}, answer{err: api.ErrSessState})
}

func TestReleaseAndCancel(t *testing.T) { // P17.2
	b := book(9, held(2, 4, 1), waiting(5), waiting(8, 1, 2))
	want(t, b, act{"release", 2, nil}, answer{book: book(9, waiting(5), waiting(8, 1, 2))})
	want(t, b, act{"release", 5, nil}, answer{err: api.ErrSessState})
	want(t, b, act{"release", 8, nil}, answer{err: api.ErrSessState})
	want(t, b, act{"cancel", 2, nil}, answer{err: api.ErrSessState})
	want(t, b, act{"cancel", 5, nil}, answer{book: book(9, held(2, 4, 1), waiting(8, 1, 2))})
	want(t, b, act{"cancel", 8, nil}, answer{book: book(9, held(2, 4, 1), waiting(5))})
	for _, name := range []string{"release", "cancel"} {
		for _, id := range []int{api.MinInt, -1, 0, 1, 3, 4, 9, 10, api.MaxInt} {
			want(t, b, act{name, id, nil}, answer{err: api.ErrSessNone})
		}
		want(t, api.Book{}, act{name, 0, nil}, answer{err: api.ErrSessNone})
	}
	want(t, book(9, waiting(2), waiting(5)), act{"release", 2, nil}, answer{err: api.ErrSessState})
	want(t, book(9, waiting(2), waiting(5)), act{"cancel", 2, nil}, answer{book: book(9, waiting(5))})
	want(t, book(2, waiting(2)), act{"cancel", 2, nil}, answer{book: book(2)}) // the last id stays
	want(t, book(2, held(2, 0)), act{"release", 2, nil}, answer{book: book(2)})
}

func TestTick(t *testing.T) { // P17.3
	const much = 1 << 62
	for _, x := range []struct {
		age, hold, behind int
		ends              bool
	}{
		{0, 2, 1, false}, {1, 2, 0, true}, {0, 1, 0, true}, {0, 0, 0, true}, {0, -1, 0, true}, {0, api.MinInt, 0, true}, {5, 7, 6, false}, {5, 6, 0, true},
		{5, 5, 0, true}, {9, 6, 0, true}, {0, api.MaxInt, 1, false}, {much - 2, api.MaxInt, much - 1, false}, {much - 1, api.MaxInt, much, false},
		{much, api.MaxInt, much, false}, {much + 1, api.MaxInt, much + 1, false}, {api.MaxInt - 1, api.MaxInt, api.MaxInt - 1, false},
		{api.MaxInt, api.MaxInt, 0, true}, {api.MaxInt, 0, 0, true}, {much - 2, much, much - 1, false}, {much - 1, much, 0, true}, {much, much, 0, true},
		{much - 1, much + 1, much, false}, {much, much + 1, much, false}, {much + 1, much + 1, 0, true}, {much + 1, much + 2, much + 1, false},
	} {
		for _, rest := range [][]api.Sess{nil, {waiting(5, 3)}, full(11)[4:]} {
			b := book(20, append([]api.Sess{held(4, x.age, 3)}, rest...)...)
			w := answer{book: book(20, append([]api.Sess{held(4, x.behind, 3)}, rest...)...)}
			if x.ends {
				w = answer{book: book(20, rest...), id: 4}
			}
			want(t, b, act{"tick", x.hold, nil}, w)
		}
	}
	for _, hold := range []int{api.MinInt, -1, 0, 1, 2, api.MaxInt} { // who waits doesn't grow older
		for _, b := range []api.Book{{}, book(9), book(9, waiting(4, 3)), book(8, full(8)...)} {
			want(t, b, act{"tick", hold, nil}, answer{book: b})
		}
	}
}

func TestGone(t *testing.T) { // P17.3
	b := book(20, held(3, 1, 0, 7), waiting(4, 7), waiting(6), waiting(9, 0, 5, 7), waiting(10, 0, 8), waiting(14, 6, 7, 8))
	for _, x := range []struct {
		peer int
		ids  []int
		left api.Book
	}{
		{7, []int{4, 9, 14}, book(20, held(3, 1, 0, 7), waiting(6), waiting(10, 0, 8))},
		{0, []int{9, 10}, book(20, held(3, 1, 0, 7), waiting(4, 7), waiting(6), waiting(14, 6, 7, 8))},
		{8, []int{10, 14}, book(20, held(3, 1, 0, 7), waiting(4, 7), waiting(6), waiting(9, 0, 5, 7))},
		{5, []int{9}, book(20, held(3, 1, 0, 7), waiting(4, 7), waiting(6), waiting(10, 0, 8), waiting(14, 6, 7, 8))},
		{1, nil, b}, {9, nil, b}, {-1, nil, b}, {api.MinInt, nil, b}, {api.MaxInt, nil, b},
	} {
		want(t, b, act{"gone", x.peer, nil}, answer{book: x.left, ids: x.ids})
	}
	want(t, book(8, full(8, 2)...), act{"gone", 2, nil}, answer{book: book(8), ids: from(1, 8)})
	want(t, book(8, full(8)...), act{"gone", 0, nil}, answer{book: book(8, full(8)...)})
	want(t, api.Book{}, act{"gone", 0, nil}, answer{})
}

// story is what came to pass: the ids in the order in which they were opened, granted and ended.
type story struct{ opened, granted, ended []int }

// goOn is a story behind a call of one name, that had no error.
func (s story) goOn(a act, r answer) story {
	s.opened, s.granted, s.ended = slices.Clone(s.opened), slices.Clone(s.granted), slices.Clone(s.ended)
	switch a.name {
	case "open":
		s.opened = append(s.opened, a.n)
	case "grant":
		s.granted = append(s.granted, r.id)
	case "release", "cancel":
		s.ended = append(s.ended, a.n)
	case "gone":
		s.ended = append(s.ended, r.ids...)
	case "tick":
		if r.id != 0 {
			s.ended = append(s.ended, r.id)
		}
	}
	return s
}

// wantStory is what follows from the promises, asked by Poll of all that were opened.
func wantStory(t *testing.T, s story, b api.Book) {
	t.Helper()
	if !slices.IsSorted(s.granted) || len(setOf(s.granted)) != len(s.granted) {
		t.Fatalf("%v: granted in another order, or twice", s)
	}
	if len(setOf(s.ended)) != len(s.ended) {
		t.Fatalf("%v: ended twice", s)
	}
	now := 0
	for _, id := range s.opened {
		state, err := Poll(b, id)
		over, was := slices.Contains(s.ended, id), slices.Contains(s.granted, id)
		if over != (err == api.ErrSessNone) || !over && (err != api.OK || was != (state == api.SessGranted)) {
			t.Fatalf("%v, of %v: %d is in state %d, error %d", b, s, id, state, err)
		}
		if was && !over {
			now++
		}
		if _, err := Open(b, id, nil); err != api.ErrSessID {
			t.Fatalf("%v, of %v: %d is opened again", b, s, id)
		}
	}
	if now > 1 {
		t.Fatalf("%v: %d are granted", s, now)
	}
	if len(s.granted) > 0 { // nobody who was opened earlier waits still
		for _, id := range s.opened {
			if id < s.granted[len(s.granted)-1] && !slices.Contains(s.ended, id) {
				t.Fatalf("%v: %d is passed over", s, id)
			}
		}
	}
}

// choices are the calls that are tried in a book: such as may go on, and such as may not.
func choices(b api.Book) []act {
	l := []act{{"open", b.Last + 1, nil}, {"open", b.Last + 2, []int{5}}, {name: "grant"}, {"tick", 1, nil}, {"tick", 2, nil}, {"gone", 5, nil}}
	for _, x := range b.Sess {
		l = append(l, act{"release", x.ID, nil}, act{"cancel", x.ID, nil})
	}
	return l
}

// step is a book and a story behind a call; as they were, if it had an error.
func step(t *testing.T, b api.Book, s story, a act) (api.Book, story, bool) {
	t.Helper()
	r := call(b, a)
	if r.err != api.OK {
		return b, s, false
	}
	if Check(r.book) != api.OK {
		t.Fatalf("%v of %v: %v may not be", a, b, r.book)
	}
	s = s.goOn(a, r)
	wantStory(t, s, r.book)
	return r.book, s, true
}

func TestAllStories(t *testing.T) { // P17.4: all rows of up to six calls
	var tell func(b api.Book, s story, left int)
	tell = func(b api.Book, s story, left int) {
		if left == 0 {
			return
		}
		for _, a := range choices(b) {
			if next, told, done := step(t, b, s, a); done {
				tell(next, told, left-1)
			}
		}
	}
	tell(api.Book{}, story{}, 6)
}

func TestLongStories(t *testing.T) { // P17.4: with books that are full, too
	c := &chance{at: 4}
	wasFull := false
	for range 300 {
		var b api.Book
		var s story
		for range 100 {
			l := choices(b)
			a := l[c.below(len(l))]
			if c.below(3) == 0 {
				a = l[c.below(2)]
			}
			b, s, _ = step(t, b, s, a)
			wasFull = wasFull || len(b.Sess) == 8
		}
	}
	if !wasFull {
		t.Error("no book was ever full")
	}
}

func wantSame(t *testing.T, a, b api.Book, w bool) {
	t.Helper()
	if Same(a, b) != w || Same(b, a) != w {
		t.Errorf("%v and %v: want %v", a, b, w)
	}
}

func TestSame(t *testing.T) { // P17.1
	make2 := func() api.Book { return book(9, held(2, 4, 1, 3), waiting(5, 0), waiting(8)) }
	wantSame(t, make2(), make2(), true)
	wantSame(t, api.Book{}, api.Book{Sess: []api.Sess{}}, true)
	wantSame(t, book(3, waiting(3)), book(3, api.Sess{ID: 3, Need: []int{}}), true)
	wantSame(t, api.Book{}, make2(), false)
	for _, change := range []func(b *api.Book){
		func(b *api.Book) { b.Last++ },
		func(b *api.Book) { b.Sess = nil },
		func(b *api.Book) { b.Sess = b.Sess[:2] },
		func(b *api.Book) { b.Sess = b.Sess[1:] },
		func(b *api.Book) { b.Sess = append(b.Sess, api.Sess{}) },
		func(b *api.Book) { b.Sess[1], b.Sess[2] = b.Sess[2], b.Sess[1] },
	} {
		other := make2()
		change(&other)
		wantSame(t, make2(), other, false)
	}
	for at := range 3 {
		for _, change := range []func(x *api.Sess){
			func(x *api.Sess) { x.ID++ },
			func(x *api.Sess) { x.State = 1 - x.State },
			func(x *api.Sess) { x.Age++ },
			func(x *api.Sess) { x.Need = append(x.Need, 7) },
			func(x *api.Sess) { x.Need = append([]int{7}, x.Need...) },
		} {
			other := make2()
			change(&other.Sess[at])
			wantSame(t, make2(), other, false)
		}
	}
	for _, change := range []func(l []int) []int{
		func(l []int) []int { return nil },
		func(l []int) []int { return l[1:] },
		func(l []int) []int { return l[:1] },
		func(l []int) []int { return []int{l[0], l[1] + 1} },
		func(l []int) []int { return []int{l[1], l[0]} },
	} {
		other := make2()
		other.Sess[0].Need = change(other.Sess[0].Need)
		wantSame(t, make2(), other, false)
	}
	l := slices.Concat(edges(), mayNotBe()[:40], samples(60)) // whether they may be isn't asked for
	for _, a := range l {
		for _, b := range l {
			wantSame(t, copyOf(a), b, same(a, b))
		}
	}
}

func TestHandedInStays(t *testing.T) { // the rules that hold everywhere
	spare := waiting(70, 8)
	for _, b := range slices.Concat(mayBe(), mayNotBe()) {
		given := copyOf(b)
		for i, x := range b.Sess {
			given.Sess[i].Need = append(slices.Clone(x.Need), 70)[:len(x.Need)]
		}
		row := append(given.Sess, spare)
		given.Sess = row[:len(b.Sess)]
		for _, a := range acts(given) {
			call(given, a)
		}
		Check(given)
		Same(given, given)
		if !same(given, b) || !alike(row[len(b.Sess)], spare) {
			t.Errorf("%v is changed: %v", b, row)
		}
		for _, x := range given.Sess {
			if x.Need[:len(x.Need)+1][len(x.Need)] != 70 {
				t.Errorf("%v: the spare room of %v is changed", b, x)
			}
		}
	}
	need := []int{9, 2, 9, 0, 77}
	if _, err := Open(api.Book{}, 1, need[:4]); err != api.OK || !slices.Equal(need, []int{9, 2, 9, 0, 77}) {
		t.Errorf("%v is changed", need)
	}
}

// spoil overwrites numbers, their spare room too.
func spoil(l []int) {
	for i := range l[:cap(l)] {
		l[:cap(l)][i] = -50
	}
}

// wantOwn asks whether lists of one answer, and what was handed in, are apart: each list is spoilt, and all others stay.
func wantOwn(t *testing.T, given api.Book, a act) {
	t.Helper()
	before, r, again := copyOf(given), call(given, a), call(copyOf(given), a)
	spoil(r.ids)
	for i, x := range r.book.Sess {
		if !alike(x, again.book.Sess[i]) {
			t.Errorf("%v of %v: lists of the answer share memory", a, before)
		}
		spoil(x.Need)
	}
	for i := range r.book.Sess[:cap(r.book.Sess)] {
		r.book.Sess[:cap(r.book.Sess)][i] = api.Sess{ID: -50}
	}
	if !same(given, before) {
		t.Errorf("%v of %v: shared by the answer", a, before)
	}
}

func TestAnswersAreNewMemory(t *testing.T) { // the rules that hold everywhere
	for _, b := range mayBe() {
		given := copyOf(b)
		for _, a := range acts(given) {
			wantOwn(t, given, a)
		}
	}
	both := []int{1, 2} // one list, handed in twice
	for _, a := range []act{{"open", 7, both}, {name: "grant"}, {"cancel", 4, nil}, {"tick", 9, nil}, {"gone", 0, nil}} {
		wantOwn(t, book(4, waiting(2, both...), waiting(3, both...), waiting(4, both...)), a)
		wantOwn(t, book(4, held(2, 1, both...), waiting(3, both...), waiting(4, both...)), a)
	}
	got, _ := Open(api.Book{}, 7, both)
	spoil(got.Sess[0].Need)
	if !slices.Equal(both, []int{1, 2}) {
		t.Errorf("%v: shared by an answer", both)
	}
}

func TestLongRows(t *testing.T) { // P1: every call ends, at rows of many too
	const much = 1000000
	many := book(much, full(much)...)
	long := book(2, waiting(1, from(0, much)...))
	for _, b := range []api.Book{many, long} {
		if Check(b) != api.ErrSessForm || !Same(b, b) {
			t.Error("a book of much")
		}
		for _, a := range []act{{"open", much + 1, nil}, {"poll", 1, nil}, {name: "grant"}, {"release", 1, nil}, {"cancel", 1, nil}, {"tick", 1, nil}, {"gone", 1, nil}} {
			if r := call(b, a); r.err != api.ErrSessForm {
				t.Errorf("%v of a book of much: error %d", a, r.err)
			}
		}
	}
	want(t, api.Book{}, act{"open", 1, slices.Repeat([]int{2}, much)}, answer{book: book(1, waiting(1, 2))})
	if r := call(api.Book{}, act{"open", 1, from(0, much)}); r.err != api.ErrSessNeed {
		t.Errorf("much is needed: error %d", r.err)
	}
}
