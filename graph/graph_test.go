package graph

import (
	"slices"
	"testing"

	"narthex/api"
)

// plain is a graph told without package graph: which two nodes have an edge, by the lesser one and the greater one.
type plain struct {
	n    int
	edge [api.MaxNodes][api.MaxNodes]bool
}

func (p *plain) has(a, b int) bool {
	if a > b {
		a, b = b, a
	}
	return a >= 0 && a < b && b < p.n && p.edge[a][b]
}

func (p *plain) graph() api.Graph {
	g := api.Graph{N: p.n}
	for a := range p.n {
		for b := range p.n {
			if a < b && p.edge[a][b] {
				g.Edges = append(g.Edges, api.Edge{A: a, B: b})
			}
		}
	}
	return g
}

func (p *plain) near(a int) []int {
	var l []int
	for b := range p.n {
		if p.has(a, b) {
			l = append(l, b)
		}
	}
	return l
}

// parts are told by joining two nodes again and again that one between them joins.
func (p *plain) parts() []int {
	var joined [api.MaxNodes][api.MaxNodes]bool
	for a := range p.n {
		for b := range p.n {
			joined[a][b] = a == b || p.has(a, b)
		}
	}
	for by := range p.n {
		for a := range p.n {
			for b := range p.n {
				joined[a][b] = joined[a][b] || joined[a][by] && joined[by][b]
			}
		}
	}
	var l []int
	for a := range p.n {
		least := 0
		for !joined[a][least] {
			least++
		}
		l = append(l, least)
	}
	return l
}

// allOf are all graphs of n nodes.
func allOf(n int) []*plain {
	all := []*plain{{n: n}}
	for a := range n {
		for b := a + 1; b < n; b++ {
			for _, p := range slices.Clone(all) {
				with := *p
				with.edge[a][b] = true
				all = append(all, &with)
			}
		}
	}
	return all
}

// full is a graph of so many nodes, with so many edges, the first ones that there may be.
func full(n, edges int) *plain {
	p := &plain{n: n}
	for a := range n {
		for b := a + 1; b < n && edges > 0; b++ {
			p.edge[a][b] = true
			edges--
		}
	}
	return p
}

// strewn are graphs of 64 nodes with edges here and there, from none to many.
func strewn() []*plain {
	var all []*plain
	turn := uint32(1)
	next := func() int {
		turn = turn*1664525 + 1013904223
		return int(turn >> 16 % api.MaxNodes)
	}
	for edges := range 10 {
		p := &plain{n: api.MaxNodes}
		for range edges * 20 {
			if a, b := next(), next(); a != b {
				p.edge[min(a, b)][max(a, b)] = true
			}
		}
		all = append(all, p)
	}
	return all
}

// of is a graph of these edges, each of two numbers.
func of(n int, ends ...int) api.Graph {
	g := api.Graph{N: n}
	for i := 0; i < len(ends); i += 2 {
		g.Edges = append(g.Edges, api.Edge{A: ends[i], B: ends[i+1]})
	}
	return g
}

// mayNotBe are graphs that may not be, one for each way in which a graph may not.
func mayNotBe() []api.Graph {
	return []api.Graph{
		of(-1), of(65), of(api.MinInt), of(api.MaxInt),
		of(0, 0, 1), of(1, 0, 1), of(-1, 0, 1), of(65, 0, 1),
		of(3, 0, 0), of(3, 1, 1), of(3, 2, 1), of(3, 1, 0), of(3, 2, 0),
		of(3, -1, 0), of(3, -1, 2), of(3, -2, -1), of(3, -1, -1),
		of(3, 1, 3), of(3, 0, 3), of(3, 2, 3), of(3, 3, 4), of(3, 4, 3), of(64, 0, 64),
		of(3, 0, 1, 0, 1), of(3, 0, 2, 0, 1), of(3, 1, 2, 0, 2), of(3, 1, 2, 0, 1),
		of(4, 0, 1, 1, 2, 1, 2), of(4, 0, 1, 0, 3, 0, 2), of(4, 0, 3, 1, 2, 0, 3), of(4, 1, 3, 2, 3, 0, 1),
		of(3, 0, 1, 1, 3), of(3, 0, 1, 2, 2), of(3, -1, 1, 0, 1),
		of(3, api.MinInt, api.MaxInt), of(3, api.MinInt, 1), of(3, 0, api.MaxInt), of(3, api.MaxInt, api.MinInt),
		full(64, 401).graph(), full(64, 402).graph(), full(64, 2016).graph(),
	}
}

func wantNothing(t *testing.T, i int, g api.Graph) {
	t.Helper()
	if g.N != 0 || len(g.Edges) != 0 {
		t.Error(i, "with an error a graph is answered:", g)
	}
}

func wantGraph(t *testing.T, got api.Graph, err api.Errno, want api.Graph) {
	t.Helper()
	if err != api.OK || got.N != want.N || !slices.Equal(got.Edges, want.Edges) {
		t.Errorf("got %v, error %d: want %v", got, err, want)
	}
}

func wantNodes(t *testing.T, call string, got, want []int) {
	t.Helper()
	if !slices.Equal(got, want) {
		t.Errorf("%s: got %v, want %v", call, got, want)
	}
}

func TestCheck(t *testing.T) { // P3.1
	for i, g := range mayNotBe() {
		if err := Check(g); err != api.ErrGraphForm {
			t.Error(i, err)
		}
	}
	for i, g := range []api.Graph{
		{}, {Edges: []api.Edge{}}, of(1), of(64),
		of(2, 0, 1), of(3, 0, 1, 0, 2, 1, 2), of(64, 0, 63), of(64, 62, 63), of(4, 0, 3, 1, 2),
		full(64, 399).graph(), full(64, 400).graph(), full(28, 378).graph(),
	} {
		if err := Check(g); err != api.OK {
			t.Error(i, err)
		}
	}
}

func TestCheckOfAllShortRows(t *testing.T) { // P3.1
	rows := [][]int{nil}
	for from, long := 0, 0; long < 3; long++ {
		to := len(rows)
		for _, row := range rows[from:to] {
			for a := -1; a <= 3; a++ {
				for b := -1; b <= 3; b++ {
					rows = append(rows, append(slices.Clone(row), a, b))
				}
			}
		}
		from = to
	}
	for n := range 4 {
		for _, row := range rows {
			g, p := of(n, row...), plain{n: n}
			for _, e := range g.Edges {
				if min(e.A, e.B) >= 0 {
					p.edge[e.A][e.B] = true
				}
			}
			if may := slices.Equal(g.Edges, p.graph().Edges); may != (Check(g) == api.OK) {
				t.Fatalf("%v: may be %v, error %d", g, may, Check(g))
			}
		}
	}
}

func TestHas(t *testing.T) { // P3.1
	for _, x := range []struct {
		g    api.Graph
		a, b int
		want bool
	}{
		{api.Graph{}, 0, 0, false},
		{api.Graph{}, 0, 1, false},
		{of(3, 0, 2), 0, 2, true},
		{of(3, 0, 2), 2, 0, true},
		{of(3, 0, 2), 0, 1, false},
		{of(3, 0, 2), 1, 2, false},
		{of(3, 0, 2), 0, 0, false},
		{of(3, 0, 2), 2, 2, false},
		{of(3, 0, 2), -1, 2, false},
		{of(3, 0, 2), 0, 3, false},
		{of(3, 0, 2), api.MinInt, api.MaxInt, false},
		{of(4, 0, 3, 1, 2), 3, 0, true},
		{of(4, 0, 3, 1, 2), 1, 3, false},
	} {
		if got := Has(x.g, x.a, x.b); got != x.want {
			t.Errorf("%v has %d, %d: %v", x.g, x.a, x.b, got)
		}
	}
}

func TestHasOfGraphsThatMayNotBe(t *testing.T) { // P3.1: nothing is said there of whether the graph may be
	for _, x := range []struct {
		g    api.Graph
		a, b int
		want bool
	}{
		{of(-1, 0, 1), 0, 1, true},
		{of(65, 0, 1), 1, 0, true},
		{of(1, 5, 7), 7, 5, true},
		{of(3, 1, 2, 0, 1), 0, 1, true},
		{of(3, 2, 1), 1, 2, false},
		{of(3, 2, 1), 2, 1, false},
		{of(3, 1, 1), 1, 1, true},
		{of(3, -2, -1), -1, -2, true},
		{of(0, api.MinInt, api.MaxInt), api.MaxInt, api.MinInt, true},
		{full(64, 2016).graph(), 63, 62, true},
	} {
		if got := Has(x.g, x.a, x.b); got != x.want {
			t.Errorf("%v has %d, %d: %v", x.g, x.a, x.b, got)
		}
	}
}

func TestSame(t *testing.T) { // P3.1
	all := append(mayNotBe(), of(0), of(1), of(3), of(64), of(3, 0, 1), of(3, 0, 2), of(4, 0, 1), of(3, 0, 1, 0, 2), full(64, 400).graph())
	for i, a := range all {
		for j, b := range all {
			if Same(a, b) != (i == j) {
				t.Errorf("%d, %d: same %v", i, j, Same(a, b))
			}
		}
		again := api.Graph{N: a.N, Edges: append(make([]api.Edge, 0, 9), a.Edges...)}
		if !Same(a, again) || !Same(again, a) {
			t.Error(i, "isn't the same as itself")
		}
	}
	if !Same(api.Graph{N: 2}, api.Graph{N: 2, Edges: []api.Edge{}}) {
		t.Error("no edges: nil and empty are one")
	}
}

func TestAdd(t *testing.T) { // P3.2
	for _, x := range []struct {
		g    api.Graph
		a, b int
		want api.Graph
	}{
		{of(2), 0, 1, of(2, 0, 1)},
		{of(2), 1, 0, of(2, 0, 1)},
		{of(3, 0, 1), 0, 2, of(3, 0, 1, 0, 2)},
		{of(3, 0, 1), 2, 1, of(3, 0, 1, 1, 2)},
		{of(3, 1, 2), 0, 2, of(3, 0, 2, 1, 2)},
		{of(4, 0, 1, 0, 3, 1, 2), 0, 2, of(4, 0, 1, 0, 2, 0, 3, 1, 2)},
		{of(4, 0, 1, 1, 2, 2, 3), 3, 1, of(4, 0, 1, 1, 2, 1, 3, 2, 3)},
		{of(64), 63, 0, of(64, 0, 63)},
	} {
		got, err := Add(x.g, x.a, x.b)
		wantGraph(t, got, err, x.want)
	}
	g, err := Add(full(64, 399).graph(), 60, 63)
	p := full(64, 399)
	p.edge[60][63] = true
	wantGraph(t, g, err, p.graph())
}

func TestRemove(t *testing.T) { // P3.2
	for _, x := range []struct {
		g    api.Graph
		a, b int
		want api.Graph
	}{
		{of(2, 0, 1), 0, 1, of(2)},
		{of(2, 0, 1), 1, 0, of(2)},
		{of(3, 0, 1, 0, 2, 1, 2), 0, 1, of(3, 0, 2, 1, 2)},
		{of(3, 0, 1, 0, 2, 1, 2), 2, 0, of(3, 0, 1, 1, 2)},
		{of(3, 0, 1, 0, 2, 1, 2), 2, 1, of(3, 0, 1, 0, 2)},
		{of(64, 0, 63), 63, 0, of(64)},
	} {
		got, err := Remove(x.g, x.a, x.b)
		wantGraph(t, got, err, x.want)
	}
	g, err := Remove(full(64, 400).graph(), 1, 0)
	p := full(64, 400)
	p.edge[0][1] = false
	wantGraph(t, g, err, p.graph())
}

func TestErrorsOfAddAndRemove(t *testing.T) { // P3.2, in the order in which they are named
	three, most := of(3, 0, 1, 1, 2), full(64, 400).graph()
	for i, x := range []struct {
		g           api.Graph
		a, b        int
		add, remove api.Errno
	}{
		{three, -1, 0, api.ErrGraphNode, api.ErrGraphNode},
		{three, 0, -1, api.ErrGraphNode, api.ErrGraphNode},
		{three, 3, 0, api.ErrGraphNode, api.ErrGraphNode},
		{three, 0, 3, api.ErrGraphNode, api.ErrGraphNode},
		{three, 2, 9, api.ErrGraphNode, api.ErrGraphNode},
		{three, -1, 3, api.ErrGraphNode, api.ErrGraphNode},
		{three, 0, 0, api.ErrGraphNode, api.ErrGraphNode},
		{three, 2, 2, api.ErrGraphNode, api.ErrGraphNode},
		{three, -1, -1, api.ErrGraphNode, api.ErrGraphNode},
		{three, 3, 3, api.ErrGraphNode, api.ErrGraphNode},
		{three, api.MinInt, api.MaxInt, api.ErrGraphNode, api.ErrGraphNode},
		{three, api.MaxInt, 1, api.ErrGraphNode, api.ErrGraphNode},
		{three, 0, 1, api.ErrGraphTwice, api.OK},
		{three, 2, 1, api.ErrGraphTwice, api.OK},
		{three, 0, 2, api.OK, api.ErrGraphNone},
		{three, 2, 0, api.OK, api.ErrGraphNone},
		{of(0), 0, 1, api.ErrGraphNode, api.ErrGraphNode},
		{of(0), 0, 0, api.ErrGraphNode, api.ErrGraphNode},
		{of(1), 0, 1, api.ErrGraphNode, api.ErrGraphNode},
		{of(64), 63, 64, api.ErrGraphNode, api.ErrGraphNode},
		{most, 62, 63, api.ErrGraphForm, api.ErrGraphNone},
		{most, 63, 62, api.ErrGraphForm, api.ErrGraphNone},
		{most, 1, 0, api.ErrGraphTwice, api.OK},
		{most, 63, 63, api.ErrGraphNode, api.ErrGraphNode},
		{most, 0, 64, api.ErrGraphNode, api.ErrGraphNode},
		{full(64, 399).graph(), 62, 63, api.OK, api.ErrGraphNone},
	} {
		added, addErr := Add(x.g, x.a, x.b)
		removed, removeErr := Remove(x.g, x.a, x.b)
		if addErr != x.add || removeErr != x.remove {
			t.Error(i, addErr, removeErr)
		}
		if addErr != api.OK {
			wantNothing(t, i, added)
		}
		if removeErr != api.OK {
			wantNothing(t, i, removed)
		}
	}
}

func TestGraphsThatMayNotBe(t *testing.T) { // P3.2, P3.3: whatever the nodes are
	for i, g := range mayNotBe() {
		for _, x := range []struct{ a, b int }{{0, 1}, {1, 0}, {0, 2}, {1, 2}, {1, 1}, {-1, 0}, {0, 64}, {62, 63}} {
			added, err := Add(g, x.a, x.b)
			if wantNothing(t, i, added); err != api.ErrGraphForm {
				t.Error(i, x, "add:", err)
			}
			removed, err := Remove(g, x.a, x.b)
			if wantNothing(t, i, removed); err != api.ErrGraphForm {
				t.Error(i, x, "remove:", err)
			}
			wantNodes(t, "near", Near(g, x.a), nil)
		}
		wantNodes(t, "parts", Parts(g), nil)
	}
}

func TestNear(t *testing.T) { // P3.3
	wantNodes(t, "near", Near(of(3, 0, 2), 2), []int{0})
	wantNodes(t, "near", Near(of(3, 0, 2), 0), []int{2})
	wantNodes(t, "near none", Near(of(3, 0, 2), 1), nil)
	wantNodes(t, "near both ways", Near(of(6, 0, 1, 0, 5, 1, 2, 1, 3), 1), []int{0, 2, 3})
	wantNodes(t, "near a greatest one", Near(of(5, 0, 4, 1, 4, 3, 4), 4), []int{0, 1, 3})
	for _, a := range []int{api.MinInt, -1, 3, 64, api.MaxInt} {
		wantNodes(t, "near no node", Near(of(3, 0, 2), a), nil)
	}
	wantNodes(t, "near, of no nodes", Near(of(0), 0), nil)
}

func TestParts(t *testing.T) { // P3.3
	for _, x := range []struct {
		g    api.Graph
		want []int
	}{
		{of(0), nil},
		{of(1), []int{0}},
		{of(3), []int{0, 1, 2}},
		{of(3, 0, 2), []int{0, 1, 0}},
		{of(4, 0, 3, 1, 2), []int{0, 1, 1, 0}},
		{of(4, 0, 3, 1, 2, 2, 3), []int{0, 0, 0, 0}},
		{of(5, 1, 4, 2, 3), []int{0, 1, 2, 2, 1}},
		{of(5, 1, 2, 1, 3, 2, 3), []int{0, 1, 1, 1, 4}},
		{of(6, 0, 5, 1, 4, 2, 3, 2, 5, 3, 4), []int{0, 0, 0, 0, 0, 0}},
	} {
		wantNodes(t, "parts", Parts(x.g), x.want)
	}
	chain := plain{n: 64}
	for a := 1; a < 63; a++ {
		chain.edge[a][a+1] = true
	}
	wantNodes(t, "parts of a chain", Parts(chain.graph()), chain.parts())
}

// wantAll holds all that is told of a graph, and of these two nodes, against what a plain one tells.
func wantAll(t *testing.T, p *plain, a, b int) {
	t.Helper()
	g := p.graph()
	if Has(g, a, b) != p.has(a, b) {
		t.Errorf("%v has %d, %d: %v", g, a, b, Has(g, a, b))
	}
	wantNodes(t, "near", Near(g, a), p.near(a))
	added, addErr := Add(g, a, b)
	removed, removeErr := Remove(g, a, b)
	if a == b || min(a, b) < 0 || max(a, b) >= p.n {
		if addErr != api.ErrGraphNode || removeErr != api.ErrGraphNode {
			t.Errorf("%v, %d, %d: errors %d, %d", g, a, b, addErr, removeErr)
		}
		return
	}
	other := *p
	other.edge[min(a, b)][max(a, b)] = !p.has(a, b)
	if p.has(a, b) {
		wantGraph(t, removed, removeErr, other.graph())
		if addErr != api.ErrGraphTwice {
			t.Errorf("%v, %d, %d: added with %d", g, a, b, addErr)
		}
		return
	}
	wantGraph(t, added, addErr, other.graph())
	if removeErr != api.ErrGraphNone {
		t.Errorf("%v, %d, %d: removed with %d", g, a, b, removeErr)
	}
}

func TestAllSmallGraphs(t *testing.T) { // P3.1 to P3.3
	for n := range 6 {
		for _, p := range allOf(n) {
			if Check(p.graph()) != api.OK {
				t.Error(p.graph(), "may be")
			}
			wantNodes(t, "parts", Parts(p.graph()), p.parts())
			for a := -1; a <= n; a++ {
				for b := -1; b <= n; b++ {
					wantAll(t, p, a, b)
				}
			}
		}
	}
}

func TestGraphsOfManyNodes(t *testing.T) { // P3.1 to P3.3
	for _, p := range strewn() {
		wantNodes(t, "parts", Parts(p.graph()), p.parts())
		for a := range p.n {
			for b := a; b < p.n; b += 5 {
				wantAll(t, p, a, b)
				wantAll(t, p, b, a)
			}
		}
	}
}

func TestAddedAndRemovedAgain(t *testing.T) { // P3.2: edges come in any order, and go in another one
	g, p := of(29), &plain{n: 29}
	step := func(i int, with bool) {
		a, b := i/29, i%29
		if a >= b {
			return
		}
		do := Remove
		if with {
			do = Add
		}
		next, err := do(g, b, a)
		p.edge[a][b] = with
		wantGraph(t, next, err, p.graph())
		g = next
	}
	const all = 29 * 29
	took := 0
	for i := range all { // 29 * 28 / 2 are 406: six edges more than there may be
		if at := i * 500 % all; at/29 < at%29 && took < api.MaxEdges {
			step(at, true)
			took++
		}
	}
	if len(g.Edges) != api.MaxEdges || Check(g) != api.OK {
		t.Fatal(len(g.Edges), "edges")
	}
	for i := range all {
		if at := i * 300 % all; p.has(at/29, at%29) {
			step(at, false)
		}
	}
	wantGraph(t, g, api.OK, of(29))
}

// roomy is a graph whose edges have spare room, and the whole of their memory.
func roomy(g api.Graph) (api.Graph, []api.Edge) {
	whole := append(slices.Clone(g.Edges), api.Edge{A: 7, B: 8}, api.Edge{}, api.Edge{A: -7, B: 8})
	return api.Graph{N: g.N, Edges: whole[:len(g.Edges)]}, whole
}

func TestHandedInStays(t *testing.T) { // the rules that hold everywhere
	graphs := append(mayNotBe(), full(64, 399).graph(), full(64, 400).graph())
	for _, p := range allOf(4) {
		graphs = append(graphs, p.graph())
	}
	for i, g := range graphs {
		g, whole := roomy(g)
		was := slices.Clone(whole)
		for a := range 4 {
			for b := range 4 {
				Has(g, a, b)
				Add(g, a, b)
				Remove(g, a, b)
			}
			Near(g, a)
		}
		Check(g)
		Parts(g)
		Same(g, g)
		if !slices.Equal(whole, was) {
			t.Errorf("%d: changed from %v to %v", i, was, whole)
		}
	}
}

func TestAnswersAreNewMemory(t *testing.T) { // the rules that hold everywhere
	for _, p := range allOf(4) {
		for a := range 4 {
			for b := range 4 {
				g, whole := roomy(p.graph())
				was := slices.Clone(whole)
				added, _ := Add(g, a, b)
				removed, _ := Remove(g, a, b)
				near, parts := Near(g, a), Parts(g)
				for _, l := range [][]api.Edge{added.Edges, removed.Edges} {
					l = l[:cap(l)]
					for i := range l {
						l[i] = api.Edge{A: 50, B: 51}
					}
				}
				for _, l := range [][]int{near, parts} {
					l = l[:cap(l)]
					for i := range l {
						l[i] = 50
					}
				}
				if !slices.Equal(whole, was) {
					t.Errorf("%v, %d, %d: shared by an answer", was, a, b)
				}
				wantAll(t, p, a, b)
				wantNodes(t, "parts again", Parts(g), p.parts())
			}
		}
	}
}

func TestLongRowsOfEdges(t *testing.T) { // P1: every call ends, at rows of many edges too
	g := api.Graph{N: 64, Edges: make([]api.Edge, 1000000)}
	for i := range g.Edges {
		g.Edges[i] = api.Edge{A: i, B: i + 1}
	}
	if Check(g) != api.ErrGraphForm || !Has(g, 1000000, 999999) || Has(g, 0, 2) || !Same(g, g) {
		t.Error("many edges")
	}
	if len(Near(g, 1)) != 0 || len(Parts(g)) != 0 {
		t.Error("near, or parts, of many edges")
	}
}
