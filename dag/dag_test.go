package dag

import (
	"slices"
	"testing"

	"narthex/api"
)

// arcs are arcs of these numbers: from the first to the second, from the third to the fourth, and so on.
func arcs(ends ...int) []api.Arc {
	var l []api.Arc
	for pair := range slices.Chunk(ends, 2) {
		l = append(l, api.Arc{From: pair[0], To: pair[1]})
	}
	return l
}

// plain is arcs told without package dag: whether one goes from a node to another one.
type plain struct {
	n     int
	leads [api.MaxNodes][api.MaxNodes]bool
}

func (p *plain) arcs() []api.Arc {
	var l []api.Arc
	for from := range p.n {
		for to := range p.n {
			if p.leads[from][to] {
				l = append(l, api.Arc{From: from, To: to})
			}
		}
	}
	return l
}

// ways are, of each two nodes, whether one arc or more lead from the first to the second.
func (p *plain) ways() [api.MaxNodes][api.MaxNodes]bool {
	way := p.leads
	for by := range p.n {
		for from := range p.n {
			for to := range p.n {
				way[from][to] = way[from][to] || way[from][by] && way[by][to]
			}
		}
	}
	return way
}

// left are the nodes that arcs lead round, and those that such ones lead to: no order tells them.
func (p *plain) left() []int {
	way := p.ways()
	var l []int
	for v := range p.n {
		for u := range p.n {
			if way[u][u] && (u == v || way[u][v]) {
				l = append(l, v)
				break
			}
		}
	}
	return l
}

// order is told by counting of each node how many arcs still go to it.
func (p *plain) order() []int {
	var still [api.MaxNodes]int
	for _, a := range p.arcs() {
		still[a.To]++
	}
	var l []int
	for len(l) < p.n {
		v := slices.Index(still[:p.n], 0)
		if v < 0 {
			return nil
		}
		l = append(l, v)
		still[v] = -1
		for to := range p.n {
			if p.leads[v][to] {
				still[to]--
			}
		}
	}
	return l
}

// depths are told by going all ways at once, arc by arc.
func (p *plain) depths() []int {
	if len(p.left()) > 0 {
		return nil
	}
	l := make([]int, p.n)
	var at [api.MaxNodes]bool
	for v := range p.n {
		at[v] = true
	}
	for long := 1; long <= p.n; long++ {
		var next [api.MaxNodes]bool
		for _, a := range p.arcs() {
			if at[a.From] {
				next[a.To] = true
				l[a.To] = long
			}
		}
		at = next
	}
	return l
}

// cycle goes back so far that it is surely on what leads round, and tells that from its least node on.
func (p *plain) cycle() []int {
	left := p.left()
	if len(left) == 0 {
		return nil
	}
	back := map[int]int{}
	for _, v := range left {
		for _, u := range slices.Backward(left) {
			if p.leads[u][v] {
				back[v] = u
			}
		}
	}
	on := left[0]
	for range p.n {
		on = back[on]
	}
	least := on
	for v := back[on]; v != on; v = back[v] {
		least = min(least, v)
	}
	l := []int{least}
	for v := back[least]; v != least; v = back[v] {
		l = slices.Insert(l, 1, v)
	}
	return l
}

func (p *plain) sinks() []int {
	var l []int
	for v := range p.n {
		if !slices.Contains(p.leads[v][:], true) {
			l = append(l, v)
		}
	}
	return l
}

// allOf are all arcs of n nodes that may be, told one after the other; of many, each so many-th one.
func allOf(n, each int) func(yield func(p *plain) bool) {
	return func(yield func(p *plain) bool) {
		pairs := n * max(n-1, 0)
		for which := 0; which < 1<<pairs; which += each {
			p := &plain{n: n}
			for pair := range pairs {
				from, to := pair/(n-1), pair%(n-1)
				if to >= from {
					to++
				}
				p.leads[from][to] = which>>pair&1 == 1
			}
			if !yield(p) {
				return
			}
		}
	}
}

// chances tells numbers from 0 up to below so many, always the same ones.
func chances() func(below int) int {
	seed := uint64(4)
	return func(below int) int {
		seed = seed*6364136223846793005 + 1442695040888963407
		return int(seed >> 40 % uint64(below))
	}
}

// strewn are arcs of 64 nodes here and there; half of those told go one way, so that they don't lead round.
func strewn() []*plain {
	chance := chances()
	var all []*plain
	for round := range 40 {
		place := make([]int, api.MaxNodes)
		for v := range place {
			place[v] = chance(1000)*api.MaxNodes + v
		}
		p := &plain{n: api.MaxNodes}
		for range round * 10 {
			from, to := chance(p.n), chance(p.n)
			if round%2 == 0 && place[from] > place[to] {
				from, to = to, from
			}
			p.leads[from][to] = from != to
		}
		all = append(all, p)
	}
	return all
}

// many are so many arcs of 64 nodes, the first ones that there may be.
func many(count int) []api.Arc {
	var l []api.Arc
	for from := range api.MaxNodes {
		for to := range api.MaxNodes {
			if from != to && len(l) < count {
				l = append(l, api.Arc{From: from, To: to})
			}
		}
	}
	return l
}

type given struct {
	n int
	l []api.Arc
}

// mayNotBe are arcs that may not be, one for each way in which they may not.
func mayNotBe() []given {
	return []given{
		{-1, nil}, {65, nil}, {api.MinInt, nil}, {api.MaxInt, nil},
		{-1, arcs(0, 1)}, {0, arcs(0, 1)}, {1, arcs(0, 1)}, {65, arcs(0, 1)},
		{3, arcs(0, 3)}, {3, arcs(3, 0)}, {3, arcs(3, 4)}, {64, arcs(0, 64)}, {64, arcs(64, 63)},
		{3, arcs(-1, 0)}, {3, arcs(0, -1)}, {3, arcs(-2, -1)},
		{3, arcs(0, 0)}, {3, arcs(2, 2)}, {3, arcs(-1, -1)}, {3, arcs(3, 3)}, {0, arcs(0, 0)}, {1, arcs(0, 0)},
		{3, arcs(0, 1, 0, 1)}, {3, arcs(2, 0, 2, 0)}, {3, arcs(0, 1, 1, 2, 0, 1)}, {3, arcs(0, 1, 1, 2, 2, 0, 1, 2)},
		{3, arcs(0, 1, 1, 0, 0, 1)}, {3, arcs(0, 1, 1, 3)}, {3, arcs(0, 1, 1, 1)}, {3, arcs(1, 1, 0, 1)},
		{3, arcs(api.MinInt, api.MaxInt)}, {3, arcs(api.MinInt, 1)}, {3, arcs(0, api.MaxInt)}, {3, arcs(api.MaxInt, 0)},
		{64, many(401)}, {64, many(64 * 63)}, {64, append(many(399), many(1)...)}, {64, append(many(400), many(1)...)},
	}
}

func wantNodes(t *testing.T, call string, l []api.Arc, got, want []int) {
	t.Helper()
	if !slices.Equal(got, want) {
		t.Errorf("%s of %v: got %v, want %v", call, l, got, want)
	}
}

// wantAll holds all that is told of arcs, handed in so, against what is told without package dag.
func wantAll(t *testing.T, p *plain, l []api.Arc) {
	t.Helper()
	if Check(p.n, l) != api.OK {
		t.Errorf("%d, %v may be", p.n, l)
	}
	round := len(p.left()) > 0
	order, is := Order(p.n, l)
	depths, deep := Depths(p.n, l)
	cycle, leads := Cycle(p.n, l)
	if is == round || deep == round || leads != round {
		t.Errorf("%d, %v lead round, %v: order %v, depths %v, cycle %v", p.n, l, round, is, deep, leads)
	}
	wantNodes(t, "order", l, order, p.order())
	wantNodes(t, "depths", l, depths, p.depths())
	wantNodes(t, "cycle", l, cycle, p.cycle())
	wantNodes(t, "sinks", l, Sinks(p.n, l), p.sinks())
}

func TestCheck(t *testing.T) { // P4.1
	for i, x := range mayNotBe() {
		if err := Check(x.n, x.l); err != api.ErrDagForm {
			t.Error(i, err)
		}
	}
	for i, x := range []given{
		{0, nil}, {0, []api.Arc{}}, {1, nil}, {64, nil},
		{2, arcs(0, 1)}, {2, arcs(1, 0)}, {2, arcs(0, 1, 1, 0)}, {3, arcs(2, 1, 0, 2, 1, 0)},
		{64, arcs(0, 63, 63, 0, 63, 62)}, {64, many(399)}, {64, many(400)}, {20, arcs(19, 0)},
	} {
		if err := Check(x.n, x.l); err != api.OK {
			t.Error(i, err)
		}
	}
}

func TestCheckOfAllShortRows(t *testing.T) { // P4.1
	var try func(n, more int, l []api.Arc, may bool)
	try = func(n, more int, l []api.Arc, may bool) {
		if may != (Check(n, l) == api.OK) {
			t.Fatalf("%d, %v: may be %v, error %d", n, l, may, Check(n, l))
		}
		for from := -1; from <= 3 && more > 0; from++ {
			for to := -1; to <= 3; to++ {
				a := api.Arc{From: from, To: to}
				good := from >= 0 && to >= 0 && from < n && to < n && from != to && !slices.Contains(l, a)
				try(n, more-1, append(slices.Clone(l), a), may && good)
			}
		}
	}
	for n := range 4 {
		try(n, 3, nil, true)
	}
}

func TestSinks(t *testing.T) { // P4.1
	for _, x := range []struct {
		n    int
		l    []api.Arc
		want []int
	}{
		{0, nil, nil},
		{1, nil, []int{0}},
		{3, nil, []int{0, 1, 2}},
		{3, arcs(0, 1, 1, 2), []int{2}},
		{3, arcs(1, 0), []int{0, 2}},
		{3, arcs(2, 0, 2, 1), []int{0, 1}},
		{3, arcs(0, 1, 1, 2, 2, 0), nil},
		{4, arcs(0, 1, 1, 0, 1, 3), []int{2, 3}},
		{64, arcs(63, 0), func() (l []int) {
			for v := range 63 {
				l = append(l, v)
			}
			return l
		}()},
	} {
		wantNodes(t, "sinks", x.l, Sinks(x.n, x.l), x.want)
	}
}

func TestFlip(t *testing.T) { // P4.1
	for _, x := range []struct {
		l    []api.Arc
		v    int
		want []api.Arc
	}{
		{nil, 0, nil},
		{[]api.Arc{}, 0, nil},
		{arcs(0, 1), 0, arcs(1, 0)},
		{arcs(0, 1), 1, arcs(0, 1)},
		{arcs(0, 1), 2, arcs(0, 1)},
		{arcs(0, 1), -1, arcs(0, 1)},
		{arcs(0, 1), api.MaxInt, arcs(0, 1)},
		{arcs(0, 1, 1, 2, 3, 1), 1, arcs(0, 1, 2, 1, 3, 1)},
		{arcs(3, 1, 1, 2, 0, 1, 2, 3), 1, arcs(3, 1, 2, 1, 0, 1, 2, 3)},
		{arcs(2, 1, 2, 0, 0, 2, 1, 0), 2, arcs(1, 2, 0, 2, 0, 2, 1, 0)},
	} {
		if got := Flip(x.l, x.v); !slices.Equal(got, x.want) {
			t.Errorf("%v flipped at %d: got %v, want %v", x.l, x.v, got, x.want)
		}
	}
}

func TestFlipOfArcsThatMayNotBe(t *testing.T) { // P4.1: nothing is said there of whether they may be
	for _, x := range []struct {
		l    []api.Arc
		v    int
		want []api.Arc
	}{
		{arcs(1, 1, 0, 0), 1, arcs(1, 1, 0, 0)},
		{arcs(0, 1, 0, 1), 0, arcs(1, 0, 1, 0)},
		{arcs(-1, 2, 2, -1), -1, arcs(2, -1, 2, -1)},
		{arcs(api.MinInt, api.MaxInt), api.MinInt, arcs(api.MaxInt, api.MinInt)},
		{arcs(70, 80, 90, 70), 70, arcs(80, 70, 90, 70)},
	} {
		if got := Flip(x.l, x.v); !slices.Equal(got, x.want) {
			t.Errorf("%v flipped at %d: got %v, want %v", x.l, x.v, got, x.want)
		}
	}
	if got := Flip(many(500), 64); !slices.Equal(got, many(500)) {
		t.Error("500 arcs, none at 64:", len(got))
	}
}

func TestOrderAndDepths(t *testing.T) { // P4.2
	for _, x := range []struct {
		n             int
		l             []api.Arc
		order, depths []int
	}{
		{0, nil, nil, nil},
		{1, nil, []int{0}, []int{0}},
		{3, nil, []int{0, 1, 2}, []int{0, 0, 0}},
		{3, arcs(0, 1, 1, 2), []int{0, 1, 2}, []int{0, 1, 2}},
		{3, arcs(2, 1, 1, 0), []int{2, 1, 0}, []int{2, 1, 0}},
		{3, arcs(2, 0), []int{1, 2, 0}, []int{1, 0, 0}},
		{4, arcs(3, 0, 0, 2, 3, 2), []int{1, 3, 0, 2}, []int{1, 0, 2, 0}},
		{4, arcs(0, 3, 3, 1, 0, 1), []int{0, 2, 3, 1}, []int{0, 2, 0, 1}},
		{5, arcs(4, 0, 3, 1, 0, 2, 1, 2), []int{3, 1, 4, 0, 2}, []int{1, 1, 2, 0, 0}},
		{6, arcs(5, 0, 0, 1, 5, 1, 1, 2, 4, 2), []int{3, 4, 5, 0, 1, 2}, []int{1, 2, 3, 0, 0, 0}},
	} {
		order, is := Order(x.n, x.l)
		depths, deep := Depths(x.n, x.l)
		if !is || !deep {
			t.Errorf("%d, %v: order %v, depths %v", x.n, x.l, is, deep)
		}
		wantNodes(t, "order", x.l, order, x.order)
		wantNodes(t, "depths", x.l, depths, x.depths)
	}
}

func TestCycle(t *testing.T) { // P4.3, and that there is then no order: P4.2
	for _, x := range []struct {
		n    int
		l    []api.Arc
		want []int
	}{
		{2, arcs(0, 1, 1, 0), []int{0, 1}},
		{3, arcs(0, 1, 1, 2, 2, 0), []int{0, 1, 2}},
		{3, arcs(1, 0, 2, 1, 0, 2), []int{0, 2, 1}},
		{3, arcs(0, 1, 1, 2, 2, 1), []int{1, 2}},             // 0 leads to it, and is told
		{3, arcs(1, 2, 2, 1, 2, 0), []int{1, 2}},             // 0 is led to, and is left
		{4, arcs(0, 1, 1, 0, 2, 3, 3, 2), []int{0, 1}},       // two: that of the least one
		{4, arcs(2, 3, 3, 2, 0, 2, 3, 1), []int{2, 3}},       // from the least left, 1
		{5, arcs(1, 2, 2, 1, 3, 4, 4, 3, 4, 0), []int{3, 4}}, // 0 is left, and is led to from those
		{5, arcs(1, 2, 2, 1, 3, 4, 4, 3, 2, 0, 4, 0), []int{1, 2}},
		{5, arcs(0, 1, 1, 0, 2, 0, 3, 2, 4, 3, 0, 4), []int{0, 1}}, // the least one of two that lead to 0
		{5, arcs(4, 2, 2, 1, 1, 4, 1, 0, 3, 4), []int{1, 4, 2}},
		{6, arcs(5, 3, 3, 5, 3, 0, 0, 1), []int{3, 5}},
		{6, arcs(0, 5, 5, 2, 2, 4, 4, 0, 4, 5), []int{0, 5, 2, 4}},
		{64, arcs(63, 62, 62, 63, 62, 0), []int{62, 63}},
	} {
		cycle, leads := Cycle(x.n, x.l)
		if !leads {
			t.Errorf("%d, %v lead round", x.n, x.l)
		}
		wantNodes(t, "cycle", x.l, cycle, x.want)
		order, is := Order(x.n, x.l)
		depths, deep := Depths(x.n, x.l)
		if is || deep || len(order) > 0 || len(depths) > 0 {
			t.Errorf("%d, %v lead round: order %v, depths %v", x.n, x.l, order, depths)
		}
	}
	for _, x := range []given{{0, nil}, {1, nil}, {64, nil}, {3, arcs(0, 1, 1, 2, 0, 2)}} {
		if cycle, leads := Cycle(x.n, x.l); leads || len(cycle) > 0 {
			t.Errorf("%d, %v don't lead round: %v", x.n, x.l, cycle)
		}
	}
}

func TestArcsThatMayNotBe(t *testing.T) { // P4.1 to P4.3
	for i, x := range mayNotBe() {
		order, is := Order(x.n, x.l)
		depths, deep := Depths(x.n, x.l)
		cycle, leads := Cycle(x.n, x.l)
		sinks := Sinks(x.n, x.l)
		if is || deep || leads || len(order)+len(depths)+len(cycle)+len(sinks) > 0 {
			t.Error(i, order, is, depths, deep, cycle, leads, sinks)
		}
	}
}

func TestAllSmallOnes(t *testing.T) { // P4.1 to P4.3, in whatever order the arcs are handed in
	for n, each := range []int{1, 1, 1, 1, 1, 101} {
		for p := range allOf(n, each) {
			l := p.arcs()
			wantAll(t, p, l)
			slices.Reverse(l)
			wantAll(t, p, l)
		}
	}
}

func TestArcsOfManyNodes(t *testing.T) { // P4.1 to P4.3
	chance := chances()
	for _, p := range strewn() {
		l := p.arcs()
		wantAll(t, p, l)
		for i := range l {
			j := chance(i + 1)
			l[i], l[j] = l[j], l[i]
		}
		wantAll(t, p, l)
	}
	chain := &plain{n: api.MaxNodes}
	for v := range api.MaxNodes - 1 {
		chain.leads[v+1][v] = true
	}
	wantAll(t, chain, chain.arcs())
	chain.leads[0][63] = true
	wantAll(t, chain, chain.arcs())
}

// wantLeadOn holds that each node stands once, and that arcs go from each to the next, and from the last to the first.
func wantLeadOn(t *testing.T, p *plain, cycle []int) {
	t.Helper()
	if len(cycle) < 2 || cycle[0] != slices.Min(cycle) {
		t.Errorf("%v: %v is no way round, or the least one isn't its first", p.arcs(), cycle)
		return
	}
	last := cycle[len(cycle)-1]
	for at, v := range cycle {
		if !p.leads[last][v] || slices.Contains(cycle[:at], v) {
			t.Errorf("%v don't lead round by %v", p.arcs(), cycle)
		}
		last = v
	}
}

func TestOrderOrCycle(t *testing.T) { // P4.4
	every := strewn()
	for n := range 5 {
		for p := range allOf(n, 1) {
			every = append(every, p)
		}
	}
	for _, p := range every {
		_, is := Order(p.n, p.arcs())
		cycle, leads := Cycle(p.n, p.arcs())
		if is == leads {
			t.Errorf("%v: order %v, cycle %v", p.arcs(), is, leads)
		}
		if leads {
			wantLeadOn(t, p, cycle)
		}
	}
}

func TestFlippedLeadRoundOnlyIfTheyDid(t *testing.T) { // P4.4
	for n := range 5 {
		for p := range allOf(n, 1) {
			l := p.arcs()
			_, did := Cycle(n, l)
			for v := range n {
				flipped := Flip(l, v)
				_, do := Cycle(n, flipped)
				if do && !did {
					t.Errorf("%v don't lead round, flipped at %d they do: %v", l, v, flipped)
				}
				if !did && !slices.Contains(Sinks(n, flipped), v) {
					t.Errorf("%v, flipped at %d: that is no sink", l, v)
				}
			}
		}
	}
}

func TestOneMoreArcToASink(t *testing.T) { // P4.4
	for n := range 5 {
		for p := range allOf(n, 1) {
			l := p.arcs()
			_, did := Cycle(n, l)
			for _, sink := range Sinks(n, l) {
				for from := range n {
					if from == sink || p.leads[from][sink] {
						continue
					}
					more := append(slices.Clone(l), api.Arc{From: from, To: sink})
					if _, do := Cycle(n, more); do != did {
						t.Errorf("%v: %v: lead round %v, did %v", l, more, do, did)
					}
				}
			}
		}
	}
}

// roomy are arcs with spare room behind them, and the whole of their memory.
func roomy(l []api.Arc) (with, whole []api.Arc) {
	whole = append(slices.Clone(l), arcs(7, 8, 0, 0, -7, 8)...)
	return whole[:len(l)], whole
}

func TestHandedInStays(t *testing.T) { // the rules that hold everywhere
	every := append(mayNotBe(), given{64, many(400)}, given{64, many(399)})
	for p := range allOf(3, 1) {
		every = append(every, given{3, p.arcs()})
	}
	for _, x := range every {
		l, whole := roomy(x.l)
		was := slices.Clone(whole)
		Check(x.n, l)
		Order(x.n, l)
		Cycle(x.n, l)
		Depths(x.n, l)
		Sinks(x.n, l)
		for v := -1; v <= 3; v++ {
			Flip(l, v)
		}
		if !slices.Equal(whole, was) {
			t.Errorf("changed from %v to %v", was, whole)
		}
	}
}

// spoil writes on all of the memory of what was answered.
func spoil[T any](l []T, with T) {
	l = l[:cap(l)]
	for i := range l {
		l[i] = with
	}
}

func TestAnswersAreNewMemory(t *testing.T) { // the rules that hold everywhere
	for p := range allOf(3, 1) {
		for v := -1; v <= 3; v++ {
			l, whole := roomy(p.arcs())
			was := slices.Clone(whole)
			order, _ := Order(3, l)
			depths, _ := Depths(3, l)
			cycle, _ := Cycle(3, l)
			for _, nodes := range [][]int{order, depths, cycle, Sinks(3, l)} {
				spoil(nodes, 50)
			}
			spoil(Flip(l, v), api.Arc{From: 50, To: 51})
			if !slices.Equal(whole, was) {
				t.Errorf("%v: shared by an answer", was)
			}
			wantAll(t, p, l)
		}
	}
}

func TestLongRowsOfArcs(t *testing.T) { // P1: every call ends, at rows of many arcs too
	long := slices.Repeat(arcs(0, 1, 1, 2), 500000)
	_, is := Order(3, long)
	_, deep := Depths(3, long)
	_, leads := Cycle(3, long)
	if Check(3, long) != api.ErrDagForm || is || deep || leads || len(Sinks(3, long)) > 0 {
		t.Error("many arcs may not be")
	}
	if !slices.Equal(Flip(long, 1), slices.Repeat(arcs(0, 1, 2, 1), 500000)) {
		t.Error("many arcs flipped")
	}
}
