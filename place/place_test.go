package place

import (
	"slices"
	"testing"

	"narthex/api"
	"narthex/colour"
	"narthex/dag"
)

// of is a graph of these edges, each of two numbers.
func of(n int, ends ...int) api.Graph {
	g := api.Graph{N: n}
	for pair := range slices.Chunk(ends, 2) {
		g.Edges = append(g.Edges, api.Edge{A: pair[0], B: pair[1]})
	}
	return g
}

// full is a graph of n nodes, each near to the others, as long as there are edges left, the first ones first.
func full(n, edges int) api.Graph {
	g := api.Graph{N: n}
	for a := range n {
		for b := a + 1; b < n && edges > 0; b++ {
			g.Edges = append(g.Edges, api.Edge{A: a, B: b})
			edges--
		}
	}
	return g
}

// allOf are all graphs of n nodes.
func allOf(n int) []api.Graph {
	edges := full(n, n*n).Edges
	var all []api.Graph
	for some := range 1 << len(edges) {
		g := api.Graph{N: n}
		for i, e := range edges {
			if some>>i&1 == 1 {
				g.Edges = append(g.Edges, e)
			}
		}
		all = append(all, g)
	}
	return all
}

// strewn are graphs of 64 nodes with edges here and there, always the same ones.
func strewn() []api.Graph {
	turn := uint32(1)
	var all []api.Graph
	for range 10 {
		g := api.Graph{N: api.MaxNodes}
		for _, e := range full(api.MaxNodes, 2016).Edges {
			turn = turn*1664525 + 1013904223
			if turn>>16%6 == 0 && len(g.Edges) < api.MaxEdges {
				g.Edges = append(g.Edges, e)
			}
		}
		all = append(all, g)
	}
	return all
}

// many are graphs of many nodes.
func many() []api.Graph {
	return append(strewn(), of(64), of(64, 0, 63), full(28, 378), full(64, 378), full(64, 400))
}

// rows are all rows of n numbers, each from low to high.
func rows(n, low, high int) [][]int {
	all := [][]int{nil}
	for range n {
		var longer [][]int
		for _, row := range all {
			for x := low; x <= high; x++ {
				longer = append(longer, append(slices.Clone(row), x))
			}
		}
		all = longer
	}
	return all
}

// mayNotBe are graphs that may not be.
func mayNotBe() []api.Graph {
	return []api.Graph{
		of(-1), of(65), of(api.MinInt), of(api.MaxInt), of(-1, 0, 1), of(1, 0, 1), of(2, 1, 0), of(2, 0, 0), of(2, -1, 0), of(2, 1, 2),
		of(3, 0, 1, 0, 1), of(3, 0, 2, 0, 1), of(3, 1, 2, 0, 1), of(2, 0, api.MaxInt), full(64, 401), full(65, 1),
	}
}

// low is a side as it is at first where the lesser colour is, high where the greater one is.
func low(peer int) api.Side { return api.Side{Peer: peer, Epoch: 1, Token: true, Ask: true} }

func high(peer int) api.Side {
	return api.Side{Peer: peer, Epoch: 1, Fork: true, Dirty: true, Bottle: true}
}

// laidOut is a table told edge by edge: both ends of each.
func laidOut(g api.Graph, c []int) []api.Diner {
	l := make([]api.Diner, g.N)
	for v := range l {
		l[v].ID = v
	}
	for b := range g.N { // so that the peers of each node rise: the lesser ones come as A of its edges, then the greater ones as B
		for _, e := range g.Edges {
			switch {
			case e.B != b:
			case c[e.A] < c[e.B]:
				l[e.B].Sides = append(l[e.B].Sides, high(e.A))
				l[e.A].Sides = append(l[e.A].Sides, low(e.B))
			default:
				l[e.B].Sides = append(l[e.B].Sides, low(e.A))
				l[e.A].Sides = append(l[e.A].Sides, high(e.B))
			}
		}
	}
	return l
}

// same is told field by field.
func same(a, b []api.Diner) bool {
	if len(a) != len(b) {
		return false
	}
	for i, d := range a {
		e := b[i]
		if d.ID != e.ID || d.Phase != e.Phase || len(d.Sides) != len(e.Sides) {
			return false
		}
		for k, x := range d.Sides {
			y := e.Sides[k]
			if x.Peer != y.Peer || x.Epoch != y.Epoch || x.State != y.State || x.Fork != y.Fork || x.Dirty != y.Dirty ||
				x.Token != y.Token || x.Bottle != y.Bottle || x.Ask != y.Ask {
				return false
			}
		}
	}
	return true
}

// right is told edge by edge.
func right(g api.Graph, c []int) bool {
	for _, x := range c {
		if x < 1 {
			return false
		}
	}
	for _, e := range g.Edges {
		if c[e.A] == c[e.B] {
			return false
		}
	}
	return true
}

func wantTable(t *testing.T, g api.Graph, c []int, want []api.Diner) {
	t.Helper()
	got, err := Table(g, c)
	if err != api.OK || !same(got, want) {
		t.Errorf("%v, %v: table: got %v, error %d, want %v", g, c, got, err, want)
	}
}

func wantNoTable(t *testing.T, g api.Graph, c []int, want api.Errno) {
	t.Helper()
	if got, err := Table(g, c); err != want || len(got) != 0 {
		t.Errorf("%v, %v: table: got %v, error %d, want error %d", g, c, got, err, want)
	}
}

func wantGraph(t *testing.T, l []api.Diner, want api.Graph) {
	t.Helper()
	g, found := Graph(l)
	if !found || g.N != want.N || !slices.Equal(g.Edges, want.Edges) {
		t.Errorf("%v: graph: got %v, %v, want %v", l, g, found, want)
	}
}

func wantNoGraph(t *testing.T, l []api.Diner) {
	t.Helper()
	if g, found := Graph(l); found || g.N != 0 || len(g.Edges) != 0 {
		t.Errorf("%v: graph: got %v, %v, want none", l, g, found)
	}
}

func wantArcs(t *testing.T, s api.Scene, want ...api.Arc) {
	t.Helper()
	if got := Arcs(s); !slices.Equal(got, want) {
		t.Errorf("%v: arcs: got %v, want %v", s, got, want)
	}
}

func TestExample(t *testing.T) { // P12.1, P12.3
	l := []api.Diner{{ID: 0, Sides: []api.Side{low(1)}}, {ID: 1, Sides: []api.Side{high(0)}}}
	wantTable(t, of(2, 0, 1), []int{1, 2}, l)
	wantArcs(t, api.Scene{Diners: l}, api.Arc{From: 0, To: 1})
	l = []api.Diner{{ID: 0, Sides: []api.Side{high(1)}}, {ID: 1, Sides: []api.Side{low(0)}}}
	wantTable(t, of(2, 0, 1), []int{2, 1}, l)
	wantArcs(t, api.Scene{Diners: l}, api.Arc{From: 1, To: 0})
}

func TestTable(t *testing.T) { // P12.1
	wantTable(t, of(0), nil, nil)
	wantTable(t, of(0), []int{}, []api.Diner{})
	wantTable(t, of(1), []int{7}, []api.Diner{{}})
	wantTable(t, of(3), []int{1, 1, 1}, []api.Diner{{}, {ID: 1}, {ID: 2}})
	wantTable(t, of(2, 0, 1), []int{1, api.MaxInt}, []api.Diner{{Sides: []api.Side{low(1)}}, {ID: 1, Sides: []api.Side{high(0)}}})
	wantTable(t, of(3, 0, 1, 1, 2), []int{1, 2, 1}, []api.Diner{
		{ID: 0, Sides: []api.Side{low(1)}},
		{ID: 1, Sides: []api.Side{high(0), high(2)}},
		{ID: 2, Sides: []api.Side{low(1)}},
	})
	wantTable(t, of(4, 0, 1, 0, 3, 1, 3), []int{2, 9, 4, 1}, []api.Diner{
		{ID: 0, Sides: []api.Side{low(1), high(3)}},
		{ID: 1, Sides: []api.Side{high(0), high(3)}},
		{ID: 2},
		{ID: 3, Sides: []api.Side{low(0), low(1)}},
	})
}

func TestAllSmallTables(t *testing.T) { // P12.1
	for n := range 5 {
		for _, g := range allOf(n) {
			for _, c := range rows(n, -1, 4) {
				if right(g, c) {
					wantTable(t, g, c, laidOut(g, c))
				} else {
					wantNoTable(t, g, c, api.ErrPlaceForm)
				}
			}
		}
	}
}

func TestTablesOfManyNodes(t *testing.T) { // P12.1
	for _, g := range many() {
		c, _, _ := colour.Run(g)
		wantTable(t, g, c, laidOut(g, c))
		for v := range c {
			c[v] = v + 1
		}
		wantTable(t, g, c, laidOut(g, c))
		c[g.N-1] = 0
		wantNoTable(t, g, c, api.ErrPlaceForm)
	}
}

func TestErrorsOfTable(t *testing.T) { // P12.1
	three := of(3, 0, 1, 1, 2)
	for _, c := range [][]int{
		nil, {}, {1}, {1, 2}, {1, 2, 1, 2}, {0, 0, 0}, {0, 2, 1}, {1, 0, 1}, {1, 2, 0}, {-1, 2, 1}, {1, 2, -1}, {1, api.MinInt, 1}, {1, 1, 2}, {1, 2, 2}, {5, 5, 5},
	} {
		wantNoTable(t, three, c, api.ErrPlaceForm)
	}
	wantNoTable(t, of(0), []int{1}, api.ErrPlaceForm)
	wantNoTable(t, of(1), nil, api.ErrPlaceForm)
	for _, g := range mayNotBe() { // that comes first, whatever the colours are
		rising := make([]int, 65)
		for v := range rising {
			rising[v] = v + 1
		}
		for _, c := range [][]int{nil, {1}, {1, 1}, {1, 2}, {1, 2, 3}, {0, -1, 0}, rising[:64], rising} {
			wantNoTable(t, g, c, api.ErrGraphForm)
		}
	}
}

// nodes are nodes with sides to these peers.
func nodes(peers ...[]int) []api.Diner {
	var l []api.Diner
	for v, row := range peers {
		d := api.Diner{ID: v}
		for _, peer := range row {
			d.Sides = append(d.Sides, api.Side{Peer: peer})
		}
		l = append(l, d)
	}
	return l
}

// plainGraph is told from a table of who has a side to whom.
func plainGraph(l []api.Diner) (api.Graph, bool) {
	has := map[[2]int]bool{}
	for v, d := range l {
		for k, x := range d.Sides {
			if x.Peer < 0 || x.Peer >= len(l) || x.Peer == v || k > 0 && d.Sides[k-1].Peer >= x.Peer {
				return api.Graph{}, false
			}
			has[[2]int{v, x.Peer}] = true
		}
	}
	g := api.Graph{N: len(l)}
	for a := range l {
		for b := range l {
			if has[[2]int{a, b}] != has[[2]int{b, a}] {
				return api.Graph{}, false
			}
			if a < b && has[[2]int{a, b}] {
				g.Edges = append(g.Edges, api.Edge{A: a, B: b})
			}
		}
	}
	return g, true
}

func TestGraph(t *testing.T) { // P12.2
	wantGraph(t, nil, of(0))
	wantGraph(t, []api.Diner{}, of(0))
	wantGraph(t, nodes(nil), of(1))
	wantGraph(t, nodes(nil, nil, nil), of(3))
	wantGraph(t, nodes([]int{1}, []int{0}), of(2, 0, 1))
	wantGraph(t, nodes([]int{2}, nil, []int{0}), of(3, 0, 2))
	wantGraph(t, nodes([]int{1, 2}, []int{0, 2}, []int{0, 1}), of(3, 0, 1, 0, 2, 1, 2))
	wantGraph(t, make([]api.Diner, 1), of(1))
	// neither epochs nor what lies there nor what they do is asked for
	wantGraph(t, []api.Diner{
		{ID: 0, Phase: 9, Sides: []api.Side{{Peer: 1, Epoch: 3, Fork: true}}},
		{ID: 1, Phase: -1, Sides: []api.Side{{Peer: 0, Epoch: -8, State: 77, Dirty: true, Fork: true}}},
	}, of(2, 0, 1))
	for _, l := range [][]api.Diner{
		{{ID: 1}}, {{ID: -1}}, {{ID: 0}, {ID: 0}}, {{ID: 1}, {ID: 0}}, {{ID: 0}, {ID: 2}}, {{ID: 0}, {ID: 1}, {ID: 3}}, {{ID: api.MinInt}}, {{ID: api.MaxInt}},
		{{ID: 1, Sides: []api.Side{{Peer: 0}}}, {ID: 0, Sides: []api.Side{{Peer: 1}}}},
		nodes([]int{0}), nodes([]int{1}), nodes([]int{-1}), nodes([]int{api.MinInt}), nodes([]int{api.MaxInt}),
		nodes([]int{1}, nil), nodes(nil, []int{0}), nodes([]int{1}, []int{2}, []int{0}), nodes([]int{2}, []int{2}, []int{0, 1, 2}),
		nodes([]int{1, 1}, []int{0}), nodes([]int{1}, []int{0, 0}), nodes([]int{1, 1}, []int{0, 0}),
		nodes([]int{2, 1}, []int{0}, []int{0}), nodes([]int{1}, []int{2, 0}, []int{1}), nodes([]int{2}, []int{2}, []int{1, 0}),
		nodes([]int{1, 2}, []int{0}, nil), nodes([]int{1}, []int{0, 2}), nodes([]int{-1, 1}, []int{0}), nodes([]int{1}, []int{0, 1}),
	} {
		wantNoGraph(t, l)
	}
}

func TestAllSmallGraphs(t *testing.T) { // P12.2
	short := slices.Concat(rows(0, 0, 0), rows(1, -1, 3), rows(2, -1, 3))
	for _, a := range short {
		for _, b := range short {
			for _, c := range short {
				l := nodes(a, b, c)
				if g, found := plainGraph(l); found {
					wantGraph(t, l, g)
				} else {
					wantNoGraph(t, l)
				}
			}
		}
	}
}

// sidesOf are nodes with a side at both ends of each edge.
func sidesOf(g api.Graph) []api.Diner { return laidOut(g, make([]int, g.N)) }

func TestGraphsOfManyNodes(t *testing.T) { // P12.2
	graphs := many()
	for n := range 6 {
		graphs = append(graphs, allOf(n)...)
	}
	for _, g := range graphs {
		wantGraph(t, sidesOf(g), g)
	}
	for _, g := range many() { // each fault by itself, at each node
		for v := range g.N {
			l := sidesOf(g)
			l[v].ID++
			wantNoGraph(t, l)
			l = sidesOf(g)
			l[v].Sides = append(l[v].Sides, api.Side{Peer: g.N})
			wantNoGraph(t, l)
			if l = sidesOf(g); len(l[v].Sides) > 0 {
				l[v].Sides = l[v].Sides[1:]
				wantNoGraph(t, l)
			}
		}
	}
	// the limits: nodes, and edges
	wantGraph(t, sidesOf(of(64, 0, 63)), of(64, 0, 63))
	wantNoGraph(t, sidesOf(of(65)))
	wantNoGraph(t, sidesOf(of(65, 0, 64)))
	wantNoGraph(t, make([]api.Diner, 65))
	wantGraph(t, sidesOf(full(64, 400)), full(64, 400))
	wantNoGraph(t, sidesOf(full(64, 401)))
	wantNoGraph(t, sidesOf(full(29, 406)))
	wantNoGraph(t, sidesOf(full(64, 2016)))
}

func TestSide(t *testing.T) { // P12.2
	d := api.Diner{ID: 2, Phase: api.Hungry, Sides: []api.Side{{Peer: 5, Epoch: 1}, high(0), {Peer: 5, Epoch: 2}, low(-3), {}, {Peer: 2, Ask: true}, {Peer: api.MaxInt, Epoch: 4}}}
	for _, x := range []struct {
		peer  int
		want  api.Side
		found bool
	}{
		{5, api.Side{Peer: 5, Epoch: 1}, true}, {0, high(0), true}, {-3, low(-3), true}, {2, api.Side{Peer: 2, Ask: true}, true}, {api.MaxInt, api.Side{Peer: api.MaxInt, Epoch: 4}, true},
		{1, api.Side{}, false}, {3, api.Side{}, false}, {-1, api.Side{}, false}, {api.MinInt, api.Side{}, false},
	} {
		if got, found := Side(d, x.peer); got != x.want || found != x.found {
			t.Errorf("side to %d: %v, %v", x.peer, got, found)
		}
	}
	if got, found := Side(api.Diner{}, 0); found || got != (api.Side{}) {
		t.Errorf("side of none: %v, %v", got, found)
	}
	if got, found := Side(api.Diner{Sides: []api.Side{{}}}, 0); !found || got != (api.Side{}) {
		t.Errorf("side without anything: %v, %v", got, found)
	}
}

func wantSame(t *testing.T, a, b []api.Diner, want bool) {
	t.Helper()
	if Same(a, b) != want || Same(b, a) != want {
		t.Errorf("%v, %v: same %v", a, b, !want)
	}
}

func TestSame(t *testing.T) { // P12.2
	wantSame(t, nil, []api.Diner{}, true)
	wantSame(t, []api.Diner{{}}, []api.Diner{{Sides: []api.Side{}}}, true)
	wantSame(t, nil, []api.Diner{{}}, false)
	make2 := func() []api.Diner {
		x := api.Side{Peer: 3, Epoch: 4, State: api.SideClosing, Fork: true, Dirty: true}
		return []api.Diner{{ID: 1, Phase: api.Eating, Sides: []api.Side{low(0), x}}, {ID: 2, Sides: []api.Side{high(7)}}}
	}
	wantSame(t, make2(), make2(), true)
	for _, change := range []func(d *api.Diner){
		func(d *api.Diner) { d.ID++ },
		func(d *api.Diner) { d.Phase++ },
		func(d *api.Diner) { d.Sides = nil },
		func(d *api.Diner) { d.Sides = d.Sides[1:] },
		func(d *api.Diner) { d.Sides = append(d.Sides, api.Side{}) },
		func(d *api.Diner) { d.Sides[len(d.Sides)-1].Peer++ },
		func(d *api.Diner) { d.Sides[len(d.Sides)-1].Epoch++ },
		func(d *api.Diner) { d.Sides[0].State++ },
		func(d *api.Diner) { d.Sides[0].Fork = !d.Sides[0].Fork },
		func(d *api.Diner) { d.Sides[0].Dirty = !d.Sides[0].Dirty },
		func(d *api.Diner) { d.Sides[0].Token = !d.Sides[0].Token },
		func(d *api.Diner) { d.Sides[0].Bottle = !d.Sides[0].Bottle },
		func(d *api.Diner) { d.Sides[0].Ask = !d.Sides[0].Ask },
	} {
		for at := range 2 {
			other := make2()
			change(&other[at])
			wantSame(t, make2(), other, false)
		}
	}
	turned := make2()
	slices.Reverse(turned)
	wantSame(t, make2(), turned, false)
	turned = make2()
	slices.Reverse(turned[0].Sides)
	wantSame(t, make2(), turned, false)
	wantSame(t, make2(), make2()[:1], false)
	wantSame(t, make2(), append(make2(), api.Diner{}), false)
}

// forkTo is the fork of an epoch on its way.
func forkTo(from, to, epoch int) api.Mail {
	return api.Mail{From: from, To: to, Msg: api.Msg{Kind: api.MsgFork, Epoch: epoch}}
}

// goesAhead is as the chapter tells it.
func goesAhead(own, other api.Side, comes bool) bool {
	clean := own.Fork && !own.Dirty
	given := !own.Fork && other.Fork && other.Dirty
	way := !own.Fork && !other.Fork && comes
	return clean || given || way
}

// twoSides are all pairs of sides of nodes 3 and 8 to each other, as far as they tell who goes ahead.
func twoSides() [][2]api.Side {
	var all [][2]api.Side
	for bits := range 1 << 6 {
		is := func(bit int) bool { return bits>>bit&1 == 1 }
		x := api.Side{Peer: 8, Epoch: 1, Fork: is(0), Dirty: is(1)}
		y := api.Side{Peer: 3, Epoch: 1, Fork: is(2), Dirty: is(3)}
		if is(4) {
			x.Epoch, x.State, x.Token, x.Ask = 2, api.SideLeaving, true, true
		}
		if is(5) {
			y.Epoch, y.State, y.Token, y.Bottle = 2, api.SideOpening, true, true
		}
		all = append(all, [2]api.Side{x, y})
	}
	return all
}

func TestWhoGoesAhead(t *testing.T) { // P12.3
	other := []api.Mail{ // none of these is that fork
		forkTo(3, 4, 1), forkTo(4, 8, 1), forkTo(3, 3, 1), forkTo(8, 8, 2), forkTo(8, 3, 3), forkTo(3, 8, 0), forkTo(-3, 8, 1),
		{From: 3, To: 8, Msg: api.Msg{Kind: api.MsgToken, Epoch: 1}},
		{From: 8, To: 3, Msg: api.Msg{Kind: api.MsgBottle, Epoch: 1}},
		{From: 3, To: 8, Msg: api.Msg{Kind: api.MsgFork, Epoch: 1, Num: 1}},
		{From: 8, To: 3, Msg: api.Msg{Kind: api.MsgFork, Epoch: 2, Num: -1}},
		{From: 8, To: 3, Msg: api.Msg{Epoch: 1}},
	}
	real := []api.Mail{forkTo(3, 8, 1), forkTo(8, 3, 1), forkTo(3, 8, 2), forkTo(8, 3, 2)}
	for _, sides := range twoSides() {
		x, y := sides[0], sides[1]
		a, b := api.Diner{ID: 3, Sides: []api.Side{x}}, api.Diner{ID: 8, Sides: []api.Side{y}}
		for some := range 1 << len(real) {
			mail := slices.Clone(other)
			for i, m := range real {
				if some>>i&1 == 1 {
					mail = append(mail, m)
				}
			}
			ahead := goesAhead(x, y, slices.Contains(mail, forkTo(8, 3, x.Epoch)))
			behind := goesAhead(y, x, slices.Contains(mail, forkTo(3, 8, x.Epoch)))
			there, back := api.Arc{From: 3, To: 8}, api.Arc{From: 8, To: 3}
			for _, turned := range []bool{false, true} {
				s := api.Scene{Diners: []api.Diner{a, b}, Mail: mail}
				if turned {
					s.Diners = []api.Diner{b, a}
				}
				switch {
				case x.Epoch != y.Epoch || !ahead && !behind:
					wantArcs(t, s)
				case !behind || ahead && !turned: // if both hold, the first one goes ahead
					wantArcs(t, s, there)
				default:
					wantArcs(t, s, back)
				}
			}
		}
	}
}

func TestOrderOfArcs(t *testing.T) { // P12.3: by places, not by IDs
	has := func(peer int) api.Side { return api.Side{Peer: peer, Fork: true} }
	none := func(peer int) api.Side { return api.Side{Peer: peer} }
	arc := func(from, to int) api.Arc { return api.Arc{From: from, To: to} }
	at := func(id int, l ...api.Side) api.Diner { return api.Diner{ID: id, Sides: l} }
	l := []api.Diner{at(9, none(2), has(5), none(-4)), at(-4, none(2), has(5), has(9)), at(2, has(9), has(5), has(-4)), at(5, none(9), none(-4), none(2))}
	wantArcs(t, api.Scene{Diners: l}, arc(-4, 9), arc(2, 9), arc(9, 5), arc(2, -4), arc(-4, 5), arc(2, 5))
	slices.Reverse(l)
	wantArcs(t, api.Scene{Diners: l}, arc(2, 5), arc(-4, 5), arc(9, 5), arc(2, -4), arc(2, 9), arc(-4, 9))
	// sides that aren't answered, or that lead to nobody, or to oneself
	wantArcs(t, api.Scene{Diners: []api.Diner{at(0, has(1), has(0), has(7)), at(1, has(2)), at(2, has(0), has(2))}})
	wantArcs(t, api.Scene{Diners: []api.Diner{at(0, has(1)), at(1)}})
	wantArcs(t, api.Scene{Diners: []api.Diner{at(0), at(1, has(0))}})
	wantArcs(t, api.Scene{Diners: []api.Diner{at(0, has(0))}})
	wantArcs(t, api.Scene{Mail: []api.Mail{forkTo(0, 1, 0)}})
	// of more than one side to a peer, the first one
	wantArcs(t, api.Scene{Diners: []api.Diner{at(0, none(1), has(1)), at(1, has(0), none(0))}}, arc(1, 0))
	wantArcs(t, api.Scene{Diners: []api.Diner{at(0, api.Side{Peer: 1, Epoch: 1}, has(1)), at(1, none(0))}})
	// of more than one node of an ID, each two
	wantArcs(t, api.Scene{Diners: []api.Diner{at(1, has(0)), at(0, none(1)), at(1, none(0)), at(0, has(1))}}, arc(1, 0), arc(1, 0), arc(0, 1))
	wantArcs(t, api.Scene{Diners: []api.Diner{at(4, has(4)), at(4, none(4))}}, arc(4, 4))
	wantArcs(t, api.Scene{Diners: []api.Diner{at(4, none(4)), at(4, none(4))}, Mail: []api.Mail{forkTo(4, 4, 0)}}, arc(4, 4))
	wantArcs(t, api.Scene{Diners: []api.Diner{at(4, none(4)), at(4, none(4))}})
}

func TestWhatFollows(t *testing.T) { // P12.3, P12.4: by a table, on each edge the one of the lesser colour goes ahead, and so they don't lead round
	graphs := many()
	for n := range 6 {
		graphs = append(graphs, allOf(n)...)
	}
	for _, g := range graphs {
		run, _, _ := colour.Run(g)
		falling := make([]int, g.N)
		for v := range falling {
			falling[v] = 2*g.N - v
		}
		for _, c := range [][]int{run, falling} {
			l, err := Table(g, c)
			if err != api.OK {
				t.Fatal(g, c, err)
			}
			wantGraph(t, l, g)
			var want []api.Arc
			for _, e := range g.Edges {
				if c[e.A] < c[e.B] {
					want = append(want, api.Arc{From: e.A, To: e.B})
				} else {
					want = append(want, api.Arc{From: e.B, To: e.A})
				}
			}
			wantArcs(t, api.Scene{Diners: l}, want...)
			if _, straight := dag.Order(g.N, Arcs(api.Scene{Diners: l})); !straight {
				t.Errorf("%v, %v: they lead round", g, c)
			}
		}
	}
}

// roomy is a row with spare room, and the whole of its memory.
func roomy[T any](row []T, spare ...T) ([]T, []T) {
	whole := append(slices.Clone(row), spare...)
	return whole[:len(row)], whole
}

func TestHandedInStays(t *testing.T) { // the rules that hold everywhere
	for _, g := range append(allOf(4), full(64, 400), of(2, 1, 0)) {
		edges, allEdges := roomy(g.Edges, api.Edge{A: 7, B: 8})
		wereEdges := slices.Clone(allEdges)
		for _, row := range append(rows(4, 0, 2), make([]int, 64)) {
			c, allColours := roomy(row, 7, -8)
			wereColours := slices.Clone(allColours)
			Table(api.Graph{N: g.N, Edges: edges}, c)
			if !slices.Equal(allEdges, wereEdges) || !slices.Equal(allColours, wereColours) {
				t.Errorf("%v, %v: table changed them", g, row)
			}
		}
		l, all := roomy(sidesOf(g), api.Diner{ID: 50})
		were := sidesOf(g)
		for v := range l {
			l[v].Sides, _ = roomy(l[v].Sides, high(70))
		}
		mail, allMail := roomy([]api.Mail{forkTo(0, 1, 1), forkTo(2, 0, 1)}, forkTo(9, 9, 9))
		wereMail := slices.Clone(allMail)
		Graph(l)
		Arcs(api.Scene{Diners: l, Mail: mail})
		Same(l, were)
		for v := range l {
			Side(l[v], 1)
			if x := l[v].Sides; x[:len(x)+1][len(x)] != high(70) {
				t.Errorf("%v: the spare room of sides is changed", g)
			}
		}
		if !same(l, were) || all[g.N].ID != 50 || !slices.Equal(allMail, wereMail) {
			t.Errorf("%v: changed", g)
		}
	}
}

// spoil makes something else of all of an answer, its spare room too.
func spoil[T any](row []T, other T) {
	row = row[:cap(row)]
	for i := range row {
		row[i] = other
	}
}

func TestAnswersAreNewMemory(t *testing.T) { // the rules that hold everywhere
	for _, g := range append(allOf(4), full(64, 400)) {
		c, _, _ := colour.Run(g)
		for v := range g.N { // no two lists of one answer share any
			l, _ := Table(g, c)
			spoil(l[v].Sides, high(70))
			want := laidOut(g, c)
			l[v].Sides, want[v].Sides = nil, nil
			if !same(l, want) {
				t.Errorf("%v: the sides of %d are shared", g, v)
			}
		}
		l, _ := Table(g, c)
		found, _ := Graph(l)
		spoil(found.Edges, api.Edge{A: -50})
		spoil(Arcs(api.Scene{Diners: l}), api.Arc{From: -50})
		if !same(l, laidOut(g, c)) {
			t.Errorf("%v: shared by an answer", g)
		}
		spoil(l, api.Diner{ID: -50})
		wantTable(t, g, c, laidOut(g, c))
		wantGraph(t, laidOut(g, c), g)
	}
}

func TestLongRows(t *testing.T) { // P1: every call ends, at rows of many too
	const much = 1000000
	wantNoTable(t, of(64), make([]int, much), api.ErrPlaceForm)
	if _, err := Table(api.Graph{N: 64, Edges: make([]api.Edge, much)}, make([]int, 64)); err != api.ErrGraphForm {
		t.Error("table of many edges:", err)
	}
	alone := make([]api.Diner, much)
	for v := range alone {
		alone[v].ID = v
	}
	if _, found := Graph(alone); found || len(Arcs(api.Scene{Diners: alone})) != 0 || !Same(alone, alone) {
		t.Error("many nodes")
	}
	sides := make([]api.Side, much)
	for i := range sides {
		sides[i].Peer = i + 1
	}
	d := api.Diner{Sides: sides}
	if _, found := Graph([]api.Diner{d}); found {
		t.Error("graph of many sides")
	}
	if x, found := Side(d, much); !found || x.Peer != much {
		t.Error("side of many:", x, found)
	}
	mail := make([]api.Mail, much)
	mail[much-1] = forkTo(1, 0, 0)
	wantArcs(t, api.Scene{Diners: nodes([]int{1}, []int{0}), Mail: mail}, api.Arc{From: 0, To: 1})
}
