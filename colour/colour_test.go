package colour

import (
	"slices"
	"testing"

	"narthex/api"
)

// plain is a graph told without package graph: which nodes are near to each other, told both ways.
type plain struct {
	n    int
	near [api.MaxNodes][api.MaxNodes]bool
}

func (p *plain) join(a, b int) { p.near[a][b], p.near[b][a] = true, true }

func (p *plain) graph() api.Graph {
	g := api.Graph{N: p.n}
	for a := range p.n {
		for b := a + 1; b < p.n; b++ {
			if p.near[a][b] {
				g.Edges = append(g.Edges, api.Edge{A: a, B: b})
			}
		}
	}
	return g
}

func (p *plain) count(v int) int {
	n := 0
	for w := range p.n {
		if p.near[v][w] {
			n++
		}
	}
	return n
}

// round is as the chapter tells it. Those that take are told first, then what they take, so that all of it hangs on c alone.
func (p *plain) round(c []int) []int {
	var take []int
	for v := range p.n {
		greatest := -1
		for w := range p.n {
			if (w == v || p.near[v][w]) && c[w] == 0 {
				greatest = w
			}
		}
		if c[v] == 0 && greatest == v {
			take = append(take, v)
		}
	}
	next := append([]int(nil), c...)
	for _, v := range take {
		next[v] = p.free(v, c)
	}
	return next
}

// free is the least colour that none near v has.
func (p *plain) free(v int, c []int) int {
	had := map[int]bool{}
	for w := range p.n {
		if p.near[v][w] {
			had[c[w]] = true
		}
	}
	x := 1
	for had[x] {
		x++
	}
	return x
}

// run doesn't go round by round: who takes a colour knows those of all greater near nodes, and of no other one, so the nodes may be gone through from the greatest one on; and each waits for just those.
func (p *plain) run() ([]int, int) {
	c, at, most := make([]int, p.n), make([]int, p.n), 0
	for v := p.n - 1; v >= 0; v-- {
		for w := v + 1; w < p.n; w++ {
			if p.near[v][w] && at[w] > at[v] {
				at[v] = at[w]
			}
		}
		at[v]++
		c[v] = p.free(v, c)
		if at[v] > most {
			most = at[v]
		}
	}
	return c, most
}

func (p *plain) right(c []int) bool {
	if len(c) != p.n {
		return false
	}
	for a := range p.n {
		for b := range p.n {
			if c[a] <= 0 || p.near[a][b] && c[a] == c[b] {
				return false
			}
		}
	}
	return true
}

// allOf are all graphs of n nodes.
func allOf(n int) []*plain {
	all := []*plain{{n: n}}
	for a := range n {
		for b := a + 1; b < n; b++ {
			for _, p := range slices.Clone(all) {
				with := *p
				with.join(a, b)
				all = append(all, &with)
			}
		}
	}
	return all
}

// rows are all rows of n numbers, each from low to high.
func rows(n, low, high int) [][]int {
	all := [][]int{nil}
	for range n {
		var longer [][]int
		for _, row := range all {
			for x := low; x <= high; x++ {
				longer = append(longer, append(slices.Clone(row), x))
			}
		}
		all = longer
	}
	return all
}

// dice tells numbers from 0 up to below n, here and there, and always the same ones.
func dice() func(n int) int {
	turn := uint32(1)
	return func(n int) int {
		turn = turn*1664525 + 1013904223
		return int(turn>>16) % n
	}
}

// strewn are graphs of 64 nodes with edges here and there, from none to as many as there may be.
func strewn() []*plain {
	roll := dice()
	var all []*plain
	for edges := 0; edges <= api.MaxEdges; edges += 20 {
		p := &plain{n: api.MaxNodes}
		for left := edges; left > 0; {
			a, b := roll(p.n), roll(p.n)
			if a != b && !p.near[a][b] {
				p.join(a, b)
				left--
			}
		}
		all = append(all, p)
	}
	return all
}

// chain is a graph of n nodes, each near to the next one.
func chain(n int) *plain {
	p := &plain{n: n}
	for v := 1; v < n; v++ {
		p.join(v-1, v)
	}
	return p
}

// star is a graph of n nodes, one near to all others.
func star(n, mid int) *plain {
	p := &plain{n: n}
	for v := range n {
		if v != mid {
			p.join(v, mid)
		}
	}
	return p
}

// full is a graph of n nodes, each near to the others, as long as there are edges left, the first ones first.
func full(n, edges int) *plain {
	p := &plain{n: n}
	for a := range n {
		for b := a + 1; b < n && edges > 0; b++ {
			p.join(a, b)
			edges--
		}
	}
	return p
}

// many are graphs of many nodes.
func many() []*plain {
	return append(strewn(), chain(64), star(64, 0), star(64, 63), star(64, 31), full(28, 378), full(64, 378), full(64, 400))
}

// of is a graph of these edges, each of two numbers.
func of(n int, ends ...int) api.Graph {
	g := api.Graph{N: n}
	for i := 0; i < len(ends); i += 2 {
		g.Edges = append(g.Edges, api.Edge{A: ends[i], B: ends[i+1]})
	}
	return g
}

// mayNotBe are graphs that may not be: too many nodes, or too few; ends that are none, or one, or turned round; edges that don't rise; too many of them.
func mayNotBe() []api.Graph {
	return []api.Graph{
		of(-1), of(65), of(api.MinInt), of(api.MaxInt), of(-1, 0, 1), of(65, 0, 1),
		of(0, 0, 1), of(1, 0, 1), of(2, 1, 2), of(2, 1, 0), of(2, 0, 0), of(2, 1, 1), of(2, -1, 0), of(2, -1, -1),
		of(3, 0, 1, 0, 1), of(3, 0, 2, 0, 1), of(3, 1, 2, 0, 1), of(3, 1, 2, 1, 2),
		of(3, api.MinInt, api.MaxInt), of(3, api.MaxInt, api.MinInt), of(3, 0, api.MaxInt),
		full(64, 401).graph(), full(64, 2016).graph(),
	}
}

func wantColours(t *testing.T, call string, got, want []int) {
	t.Helper()
	if !slices.Equal(got, want) {
		t.Errorf("%s: got %v, want %v", call, got, want)
	}
}

func wantRound(t *testing.T, g api.Graph, c, want []int) {
	t.Helper()
	got, err := Round(g, c)
	if err != api.OK || !slices.Equal(got, want) {
		t.Errorf("%v: round from %v: got %v, error %d, want %v", g, c, got, err, want)
	}
}

func wantRun(t *testing.T, g api.Graph, want []int, rounds int) {
	t.Helper()
	got, n, err := Run(g)
	if err != api.OK || n != rounds || !slices.Equal(got, want) {
		t.Errorf("%v: run: got %v, %d rounds, error %d, want %v, %d rounds", g, got, n, err, want, rounds)
	}
}

func wantRight(t *testing.T, g api.Graph, c []int, want bool) {
	t.Helper()
	if Right(g, c) != want {
		t.Errorf("%v: %v: right %v", g, c, !want)
	}
}

func TestExample(t *testing.T) { // P11.1, P11.2
	g := of(3, 0, 1, 1, 2)
	wantRound(t, g, []int{0, 0, 0}, []int{0, 0, 1})
	wantRound(t, g, []int{0, 0, 1}, []int{0, 2, 1})
	wantRound(t, g, []int{0, 2, 1}, []int{1, 2, 1})
	wantRound(t, g, []int{1, 2, 1}, []int{1, 2, 1})
	wantRun(t, g, []int{1, 2, 1}, 3)
}

func TestRound(t *testing.T) { // P11.1
	const most = api.MaxInt
	for _, x := range []struct {
		g       api.Graph
		c, want []int
	}{
		{of(0), nil, nil},
		{of(0), []int{}, nil},
		{of(1), []int{0}, []int{1}},
		{of(1), []int{7}, []int{7}},
		{of(3), []int{0, 0, 0}, []int{1, 1, 1}},
		{of(3), []int{0, 1, 0}, []int{1, 1, 1}},
		// near ones that have none: the greatest one alone takes; those that are far don't count
		{of(2, 0, 1), []int{0, 0}, []int{0, 1}},
		{of(4, 0, 1, 2, 3), []int{0, 0, 0, 0}, []int{0, 1, 0, 1}},
		{of(4, 0, 2, 1, 3), []int{0, 0, 0, 0}, []int{0, 0, 1, 1}},
		{of(3, 0, 1), []int{0, 0, 0}, []int{0, 1, 1}},
		// a greater one that has a colour isn't waited for; a lesser one never is
		{of(2, 0, 1), []int{0, 5}, []int{1, 5}},
		{of(2, 0, 1), []int{5, 0}, []int{5, 1}},
		{of(3, 0, 1, 0, 2), []int{0, 0, 3}, []int{0, 1, 3}},
		{of(3, 0, 1, 0, 2), []int{0, 3, 0}, []int{0, 3, 1}},
		// the least one that no near one has, whatever the others have
		{of(2, 0, 1), []int{0, 1}, []int{2, 1}},
		{of(2, 0, 1), []int{1, 0}, []int{1, 2}},
		{of(3, 0, 1, 0, 2), []int{0, 1, 2}, []int{3, 1, 2}},
		{of(3, 0, 1, 0, 2), []int{0, 2, 1}, []int{3, 2, 1}},
		{of(3, 0, 1, 0, 2), []int{0, 1, 3}, []int{2, 1, 3}},
		{of(3, 0, 1, 0, 2), []int{0, 2, 3}, []int{1, 2, 3}},
		{of(3, 0, 1, 0, 2), []int{0, 1, 1}, []int{2, 1, 1}},
		{of(4, 0, 1, 0, 2, 0, 3), []int{0, 3, 1, 2}, []int{4, 3, 1, 2}},
		{of(4, 0, 1, 0, 2), []int{0, 1, 2, 3}, []int{3, 1, 2, 3}},
		{of(3, 0, 1), []int{0, 2, 1}, []int{1, 2, 1}},
		{of(3, 0, 1, 1, 2), []int{0, 2, 1}, []int{1, 2, 1}},
		{of(3, 0, 1, 0, 2), []int{0, most, 1}, []int{2, most, 1}},
		{of(2, 0, 1), []int{0, most}, []int{1, most}},
		// all at once: what one takes another one doesn't see
		{of(3, 0, 1, 1, 2), []int{0, 2, 0}, []int{1, 2, 1}},
		{of(4, 0, 1, 1, 2, 2, 3), []int{0, 1, 0, 0}, []int{2, 1, 0, 1}},
		{of(3, 0, 1, 1, 2), []int{0, 0, 0}, []int{0, 0, 1}},
		// who has one keeps it, though it isn't right
		{of(2, 0, 1), []int{4, 4}, []int{4, 4}},
		{of(3, 0, 1, 1, 2), []int{0, 4, 4}, []int{1, 4, 4}},
		{of(3, 0, 1, 0, 2, 1, 2), []int{1, 1, 0}, []int{1, 1, 2}},
	} {
		wantRound(t, x.g, x.c, x.want)
	}
}

func TestErrorsOfRound(t *testing.T) { // P11.1
	three := of(3, 0, 1, 1, 2)
	for i, x := range []struct {
		g api.Graph
		c []int
	}{
		{three, nil}, {three, []int{}}, {three, []int{0}}, {three, []int{0, 0}}, {three, []int{0, 0, 0, 0}}, {three, []int{1, 2, 1, 2}},
		{three, []int{-1, 0, 0}}, {three, []int{0, -1, 0}}, {three, []int{0, 0, -1}}, {three, []int{1, -1, 1}}, {three, []int{1, 2, -1}},
		{three, []int{api.MinInt, 0, 0}}, {three, []int{0, 0, api.MinInt}}, {three, []int{-1, -1, -1}},
		{three, []int{-1, 0}}, {three, []int{0, 0, 0, -1}},
		{of(0), []int{0}}, {of(0), []int{1}}, {of(0), []int{-1}}, {of(1), nil}, {of(1), []int{-1}},
		{of(64), make([]int, 63)}, {of(64), make([]int, 65)},
	} {
		if c, err := Round(x.g, x.c); err != api.ErrColourForm || len(c) != 0 {
			t.Errorf("%d: %v, error %d", i, c, err)
		}
	}
	wantRound(t, of(64), make([]int, 64), slices.Repeat([]int{1}, 64))
}

func TestGraphsThatMayNotBe(t *testing.T) { // P11.1, P11.2: that comes first, whatever the colours are
	for i, g := range mayNotBe() {
		for _, c := range [][]int{nil, {0}, {0, 0}, {1, 2}, {1, 2, 3}, {0, 0, 0}, {0, -1, 0}, {-1}, make([]int, 64), make([]int, 65)} {
			if next, err := Round(g, c); err != api.ErrGraphForm || len(next) != 0 {
				t.Errorf("%d: round from %v: %v, error %d", i, c, next, err)
			}
			wantRight(t, g, c, false)
		}
		if c, n, err := Run(g); err != api.ErrGraphForm || n != 0 || len(c) != 0 {
			t.Errorf("%d: run: %v, %d rounds, error %d", i, c, n, err)
		}
	}
	rising := make([]int, 65) // right, if that many nodes might be, or edges
	for v := range rising {
		rising[v] = v + 1
	}
	wantRight(t, of(65), rising, false)
	wantRight(t, full(64, 401).graph(), rising[:64], false)
	wantRight(t, full(64, 400).graph(), rising[:64], true)
}

func TestRight(t *testing.T) { // P11.1
	chain, round := of(3, 0, 1, 1, 2), of(3, 0, 1, 0, 2, 1, 2)
	for _, x := range []struct {
		g    api.Graph
		c    []int
		want bool
	}{
		{of(0), nil, true},
		{of(0), []int{}, true},
		{of(0), []int{1}, false},
		{of(1), []int{1}, true},
		{of(1), []int{api.MaxInt}, true},
		{of(1), []int{0}, false},
		{of(1), []int{-1}, false},
		{of(1), []int{api.MinInt}, false},
		{of(1), nil, false},
		{of(1), []int{1, 1}, false},
		{of(3), []int{1, 1, 1}, true},
		{of(3), []int{1, 0, 1}, false},
		{chain, []int{1, 2, 1}, true},
		{chain, []int{1, 2, 3}, true},
		{chain, []int{9, 5, 9}, true},
		{chain, []int{1, 1, 2}, false},
		{chain, []int{1, 2, 2}, false},
		{chain, []int{0, 2, 1}, false},
		{chain, []int{1, 0, 1}, false},
		{chain, []int{1, 2, 0}, false},
		{chain, []int{0, 0, 0}, false},
		{chain, []int{-1, 2, 1}, false},
		{chain, []int{1, -2, 1}, false},
		{chain, []int{1, 2, -1}, false},
		{chain, []int{1, 2}, false},
		{chain, []int{1, 2, 1, 2}, false},
		{chain, nil, false},
		{round, []int{3, 2, 1}, true},
		{round, []int{1, 2, 1}, false},
		{round, []int{1, 1, 2}, false},
		{round, []int{1, 2, 2}, false},
		{of(4, 0, 3, 1, 2), []int{1, 1, 2, 2}, true},
		{of(4, 0, 3, 1, 2), []int{1, 2, 1, 1}, false},
		{of(4, 0, 3, 1, 2), []int{1, 2, 2, 3}, false},
		{of(64, 62, 63), slices.Repeat([]int{1}, 64), false},
		{of(64), slices.Repeat([]int{1}, 64), true},
		{of(64), slices.Repeat([]int{1}, 63), false},
		{of(64), slices.Repeat([]int{1}, 65), false},
	} {
		wantRight(t, x.g, x.c, x.want)
	}
}

func TestMost(t *testing.T) { // P11.1
	for _, x := range []struct {
		c    []int
		want int
	}{
		{nil, 0}, {[]int{}, 0}, {[]int{0}, 0}, {[]int{1}, 1}, {[]int{0, 0}, 0},
		{[]int{2, 7, 1}, 7}, {[]int{7, 2, 1}, 7}, {[]int{1, 2, 7}, 7}, {[]int{3, 3}, 3},
		{[]int{-5}, 0}, {[]int{-5, -1}, 0}, {[]int{-5, 3, -1}, 3}, {[]int{3, -5}, 3},
		{[]int{api.MinInt}, 0}, {[]int{api.MaxInt}, api.MaxInt}, {[]int{api.MinInt, api.MaxInt, 0}, api.MaxInt},
	} {
		if got := Most(x.c); got != x.want {
			t.Errorf("most of %v: %d", x.c, got)
		}
	}
}

func TestRun(t *testing.T) { // P11.2
	for _, x := range []struct {
		g      api.Graph
		want   []int
		rounds int
	}{
		{of(0), nil, 0},
		{of(1), []int{1}, 1},
		{of(3), []int{1, 1, 1}, 1},
		{of(2, 0, 1), []int{2, 1}, 2},
		{of(3, 0, 2), []int{2, 1, 1}, 2},
		{of(3, 0, 1, 0, 2), []int{2, 1, 1}, 2},
		{of(3, 0, 2, 1, 2), []int{2, 2, 1}, 2},
		{of(3, 0, 1, 0, 2, 1, 2), []int{3, 2, 1}, 3},
		{of(4, 0, 3, 1, 2), []int{2, 2, 1, 1}, 2},
		{of(4, 0, 1, 1, 2, 2, 3), []int{2, 1, 2, 1}, 4},
		{of(4, 0, 1, 0, 3, 1, 2, 2, 3), []int{2, 1, 2, 1}, 4},
		{of(5, 0, 2, 0, 4, 1, 3, 1, 4, 2, 3), []int{3, 2, 2, 1, 1}, 3},
	} {
		wantRun(t, x.g, x.want, x.rounds)
	}
}

// wantRow holds what a round makes of colours that are a number of each node, and whether they are right, against what a plain graph tells.
func wantRow(t *testing.T, p *plain, g api.Graph, c []int) {
	t.Helper()
	wantRight(t, g, c, p.right(c))
	if slices.ContainsFunc(c, func(x int) bool { return x < 0 }) {
		if next, err := Round(g, c); err != api.ErrColourForm || len(next) != 0 {
			t.Errorf("%v: round from %v: %v, error %d", g, c, next, err)
		}
		return
	}
	wantRound(t, g, c, p.round(c))
}

func TestAllSmallGraphs(t *testing.T) { // P11.1, P11.2
	for n := range 6 {
		colours := rows(n, -1, 4)
		if n == 5 {
			colours = rows(n, 0, 2)
		}
		for _, p := range allOf(n) {
			g := p.graph()
			for _, c := range colours {
				wantRow(t, p, g, c)
			}
			c, rounds := p.run()
			wantRun(t, g, c, rounds)
		}
	}
}

func TestGraphsOfManyNodes(t *testing.T) { // P11.1, P11.2
	roll := dice()
	for _, p := range many() {
		g := p.graph()
		c, rounds := p.run()
		wantRun(t, g, c, rounds)
		wantRight(t, g, c, true)
		for range 50 { // some of them have none, some another one
			row := slices.Clone(c)
			for range roll(p.n + 1) {
				row[roll(p.n)] = max(roll(12)-5, 0)
			}
			wantRow(t, p, g, row)
		}
	}
}

// wantFollows holds what Run tells against what follows, and against Round, again and again.
func wantFollows(t *testing.T, p *plain) {
	t.Helper()
	g := p.graph()
	c, rounds, err := Run(g)
	if err != api.OK || !p.right(c) || !Right(g, c) || rounds > p.n {
		t.Errorf("%v: %v, %d rounds, error %d", g, c, rounds, err)
		return
	}
	for v, x := range c {
		if x > p.count(v)+1 {
			t.Errorf("%v: %d near %d, that has %d", g, p.count(v), v, x)
		}
	}
	step := make([]int, p.n)
	for i := range rounds {
		if Right(g, step) {
			t.Errorf("%v: all have one behind %d rounds, not %d", g, i, rounds)
		}
		step, _ = Round(g, step)
	}
	wantColours(t, "round by round", step, c)
	wantRound(t, g, c, c)
}

func TestWhatFollows(t *testing.T) { // P11.2, P11.3
	for n := range 6 {
		for _, p := range allOf(n) {
			wantFollows(t, p)
		}
	}
	for _, p := range many() {
		wantFollows(t, p)
	}
}

func TestAsMuchAsMayBe(t *testing.T) { // P11.3: as many colours, and rounds, as there may be at most
	falling := make([]int, 28)
	for v := range falling {
		falling[v] = 28 - v
	}
	wantRun(t, full(28, 378).graph(), falling, 28)
	if most := Most(falling); most != 28 {
		t.Error("the most is", most)
	}
	turns := slices.Repeat([]int{2, 1}, 32)
	wantRun(t, chain(64).graph(), turns, 64)
	middle := slices.Repeat([]int{2}, 64)
	middle[63] = 1
	wantRun(t, star(64, 63).graph(), middle, 2)
}

// roomy is a row with spare room, and the whole of its memory.
func roomy[T any](row []T, spare ...T) ([]T, []T) {
	whole := append(slices.Clone(row), spare...)
	return whole[:len(row)], whole
}

func TestHandedInStays(t *testing.T) { // the rules that hold everywhere
	graphs := append(mayNotBe(), chain(64).graph(), full(64, 400).graph())
	for _, p := range allOf(3) {
		graphs = append(graphs, p.graph())
	}
	for i, g := range graphs {
		edges, allEdges := roomy(g.Edges, api.Edge{A: 7, B: 8}, api.Edge{A: -7, B: 8})
		for _, row := range append(rows(3, -1, 2), nil, make([]int, 64)) {
			c, allColours := roomy(row, 7, -8, 9)
			wereEdges, wereColours := slices.Clone(allEdges), slices.Clone(allColours)
			h := api.Graph{N: g.N, Edges: edges}
			Round(h, c)
			Run(h)
			Right(h, c)
			Most(c)
			if !slices.Equal(allEdges, wereEdges) || !slices.Equal(allColours, wereColours) {
				t.Errorf("%d, %v: changed", i, row)
			}
		}
	}
}

// spoil makes something else of all of an answer, its spare room too.
func spoil(row []int) {
	row = row[:cap(row)]
	for i := range row {
		row[i] = -50
	}
}

func TestAnswersAreNewMemory(t *testing.T) { // the rules that hold everywhere
	for _, p := range allOf(4) {
		g := p.graph()
		for _, row := range rows(4, 0, 3) {
			c, whole := roomy(row, 7, -8, 9)
			were := slices.Clone(whole)
			next, _ := Round(g, c)
			ran, _, _ := Run(g)
			spoil(next)
			spoil(ran)
			wantColours(t, "shared by an answer", whole, were)
			wantRow(t, p, g, c)
		}
		c, rounds := p.run()
		wantRun(t, g, c, rounds)
	}
}

func TestLongRows(t *testing.T) { // P1: every call ends, at rows of many too
	row := make([]int, 1000000)
	row[999999] = 3
	if c, err := Round(of(64), row); err != api.ErrColourForm || len(c) != 0 {
		t.Error("round of many colours:", err)
	}
	if Right(of(64), row) || Most(row) != 3 {
		t.Error("right, or most, of many colours")
	}
	g := api.Graph{N: 64, Edges: make([]api.Edge, 1000000)}
	if _, err := Round(g, make([]int, 64)); err != api.ErrGraphForm {
		t.Error("round of many edges:", err)
	}
	if _, _, err := Run(g); err != api.ErrGraphForm {
		t.Error("run of many edges:", err)
	}
}
