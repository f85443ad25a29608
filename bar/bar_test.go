package bar

import (
	"slices"
	"strings"
	"testing"

	"narthex/api"
	"narthex/dag"
	"narthex/drink"
	"narthex/place"
	"narthex/table"
)

var (
	phases  = []api.Phase{api.Thinking, api.Hungry, api.Eating}
	thirsts = []api.Thirst{api.Tranquil, api.Thirsty, api.Drinking}
	kinds   = []api.MsgKind{api.MsgFork, api.MsgToken, api.MsgBottle, api.MsgAsk}
	others  = []api.MsgKind{api.MinInt, -1, 0, api.MsgNew, api.MsgKnown, api.MsgClose, api.MsgClosed, api.MsgColour, 10, 257, 258, 259, 260, api.MaxInt}
	nodes   = []int{api.MinInt, -1, 0, 1, 2, 3, 64, api.MaxInt}
)

// of is a graph of these edges, each of two numbers.
func of(n int, nodes ...int) api.Graph {
	g := api.Graph{N: n}
	for pair := range slices.Chunk(nodes, 2) {
		g.Edges = append(g.Edges, api.Edge{A: pair[0], B: pair[1]})
	}
	return g
}

// full is a graph of n nodes, each near to the others, as long as there are edges left, the first ones first.
func full(n, edges int) api.Graph {
	g := api.Graph{N: n}
	for a := range n {
		for b := a + 1; b < n && edges > 0; b++ {
			g.Edges = append(g.Edges, api.Edge{A: a, B: b})
			edges--
		}
	}
	return g
}

// allOf are all graphs of n nodes.
func allOf(n int) []api.Graph {
	edges := full(n, n*n).Edges
	var all []api.Graph
	for some := range 1 << len(edges) {
		g := api.Graph{N: n}
		for i, e := range edges {
			if some>>i&1 == 1 {
				g.Edges = append(g.Edges, e)
			}
		}
		all = append(all, g)
	}
	return all
}

// allUpTo are all graphs of up to n nodes.
func allUpTo(n int) []api.Graph {
	var all []api.Graph
	for k := range n + 1 {
		all = append(all, allOf(k)...)
	}
	return all
}

// chance tells numbers here and there, always the same ones.
type chance struct{ at uint64 }

func (c *chance) below(n int) int {
	c.at = c.at*6364136223846793005 + 1442695040888963407
	return int(c.at >> 33 % uint64(n))
}

func pick[T any](c *chance, l []T) T { return l[c.below(len(l))] }

// many are graphs of many nodes: with edges here and there, and at the limits.
func many() []api.Graph {
	c := &chance{at: 1}
	all := []api.Graph{of(64), of(64, 0, 63), full(28, 378), full(64, 400), full(20, 190)}
	for range 3 {
		g := api.Graph{N: api.MaxNodes}
		for _, e := range full(api.MaxNodes, 2016).Edges {
			if c.below(6) == 0 && len(g.Edges) < api.MaxEdges {
				g.Edges = append(g.Edges, e)
			}
		}
		all = append(all, g)
	}
	return all
}

// side is a side with these: Fork, Dirty, Token, Bottle, Ask, by their first letters.
func side(peer, epoch int, what string) api.Side {
	return api.Side{
		Peer: peer, Epoch: epoch,
		Fork: strings.Contains(what, "F"), Dirty: strings.Contains(what, "D"), Token: strings.Contains(what, "T"),
		Bottle: strings.Contains(what, "B"), Ask: strings.Contains(what, "A"),
	}
}

// drinker is one of that id.
func drinker(id int, p api.Phase, t api.Thirst, need []int, l ...api.Side) api.Drinker {
	return api.Drinker{Diner: api.Diner{ID: id, Phase: p, Sides: l}, Thirst: t, Need: need}
}

// calm is one that thinks, and is tranquil.
func calm(id int, l ...api.Side) api.Drinker {
	return drinker(id, api.Thinking, api.Tranquil, nil, l...)
}

// mail is a message, of epoch 1, on its way.
func mail(from, to int, k api.MsgKind) api.Mail {
	return api.Mail{From: from, To: to, Msg: api.Msg{Kind: k, Epoch: 1}}
}

func barOf(l []api.Drinker, on ...api.Mail) api.Bar { return api.Bar{Drinkers: l, Mail: on} }

func sameSides(a, b []api.Side) bool {
	if len(a) != len(b) {
		return false
	}
	for k, x := range a {
		y := b[k]
		if x.Peer != y.Peer || x.Epoch != y.Epoch || x.State != y.State || x.Fork != y.Fork || x.Dirty != y.Dirty ||
			x.Token != y.Token || x.Bottle != y.Bottle || x.Ask != y.Ask {
			return false
		}
	}
	return true
}

func sameMail(a, b []api.Mail) bool {
	if len(a) != len(b) {
		return false
	}
	for i, m := range a {
		o := b[i]
		if m.From != o.From || m.To != o.To || m.Msg.Kind != o.Msg.Kind || m.Msg.Epoch != o.Msg.Epoch || m.Msg.Num != o.Msg.Num {
			return false
		}
	}
	return true
}

// same is told field by field.
func same(a, b api.Bar) bool {
	if len(a.Drinkers) != len(b.Drinkers) {
		return false
	}
	for i, d := range a.Drinkers {
		e := b.Drinkers[i]
		if d.ID != e.ID || d.Phase != e.Phase || !sameSides(d.Sides, e.Sides) || d.Thirst != e.Thirst || len(d.Need) != len(e.Need) {
			return false
		}
		for k, x := range d.Need {
			if x != e.Need[k] {
				return false
			}
		}
	}
	return sameMail(a.Mail, b.Mail)
}

// sameScene is told field by field.
func sameScene(a, b api.Scene) bool {
	if len(a.Diners) != len(b.Diners) {
		return false
	}
	for i, d := range a.Diners {
		e := b.Diners[i]
		if d.ID != e.ID || d.Phase != e.Phase || !sameSides(d.Sides, e.Sides) {
			return false
		}
	}
	return sameMail(a.Mail, b.Mail)
}

func copied(s api.Bar) api.Bar {
	other := api.Bar{Mail: append([]api.Mail(nil), s.Mail...)}
	for _, d := range s.Drinkers {
		d.Sides, d.Need = append([]api.Side(nil), d.Sides...), append([]int(nil), d.Need...)
		other.Drinkers = append(other.Drinkers, d)
	}
	return other
}

// want is what a call that has no error answers.
func want(t *testing.T, what string, s, got api.Bar, err api.Errno, want api.Bar) {
	t.Helper()
	if err != api.OK || !same(got, want) {
		t.Errorf("%s of %+v: got %+v, error %d, want %+v", what, s, got, err, want)
	}
}

// wantError is what a call that has one answers.
func wantError(t *testing.T, what string, s, got api.Bar, err, want api.Errno) {
	t.Helper()
	if err != want || !same(got, api.Bar{}) {
		t.Errorf("%s of %+v: got %+v, error %d, want error %d", what, s, got, err, want)
	}
}

func TestExample(t *testing.T) { // P16.2
	first := barOf([]api.Drinker{calm(0, side(1, 1, "FDB")), calm(1, side(0, 1, "TA"))})
	s, err := New(of(2, 0, 1)) // colours 2, 1
	want(t, "new", api.Bar{}, s, err, first)
	a, err := Open(s, 0, nil) // it has the fork: it eats, and thinks again, as it drinks
	want(t, "open", s, a, err, barOf([]api.Drinker{drinker(0, api.Thinking, api.Drinking, nil, side(1, 1, "FDB")), calm(1, side(0, 1, "TA"))}))
	b, err := Open(a, 1, nil)
	want(t, "open", a, b, err, barOf([]api.Drinker{
		drinker(0, api.Thinking, api.Drinking, nil, side(1, 1, "FDB")), drinker(1, api.Hungry, api.Drinking, nil, side(0, 1, "A")),
	}, mail(1, 0, api.MsgToken)))
	if got := Who(b, api.Drinking); !slices.Equal(got, []int{0, 1}) {
		t.Errorf("who drinks: %v", got)
	}
}

func TestOneBottle(t *testing.T) { // P16.2: both need it
	step := func(s api.Bar, err api.Errno, like api.Bar) api.Bar {
		t.Helper()
		want(t, "step", s, s, err, like)
		return s
	}
	one := []int{1}
	zero := []int{0}
	s, _ := New(of(2, 0, 1))
	s, err := Open(s, 1, zero)
	s = step(s, err, barOf([]api.Drinker{calm(0, side(1, 1, "FDB")), drinker(1, api.Hungry, api.Thirsty, zero, side(0, 1, ""))},
		mail(1, 0, api.MsgToken), mail(1, 0, api.MsgAsk)))
	s, err = Deliver(s, 1, 0)
	s = step(s, err, barOf([]api.Drinker{calm(0, side(1, 1, "TB")), drinker(1, api.Hungry, api.Thirsty, zero, side(0, 1, ""))},
		mail(1, 0, api.MsgAsk), mail(0, 1, api.MsgFork)))
	s, err = Open(s, 0, one) // the bottle is here: it drinks, though the fork isn't
	s = step(s, err, barOf([]api.Drinker{drinker(0, api.Hungry, api.Drinking, one, side(1, 1, "B")), drinker(1, api.Hungry, api.Thirsty, zero, side(0, 1, ""))},
		mail(1, 0, api.MsgAsk), mail(0, 1, api.MsgFork), mail(0, 1, api.MsgToken)))
	s, err = Deliver(s, 1, 0) // the ask waits
	s = step(s, err, barOf([]api.Drinker{drinker(0, api.Hungry, api.Drinking, one, side(1, 1, "BA")), drinker(1, api.Hungry, api.Thirsty, zero, side(0, 1, ""))},
		mail(0, 1, api.MsgFork), mail(0, 1, api.MsgToken)))
	s, err = Deliver(s, 0, 1)
	s = step(s, err, barOf([]api.Drinker{drinker(0, api.Hungry, api.Drinking, one, side(1, 1, "BA")), drinker(1, api.Eating, api.Thirsty, zero, side(0, 1, "FD"))},
		mail(0, 1, api.MsgToken)))
	s, err = Close(s, 0)
	s = step(s, err, barOf([]api.Drinker{drinker(0, api.Hungry, api.Tranquil, nil, side(1, 1, "A")), drinker(1, api.Eating, api.Thirsty, zero, side(0, 1, "FD"))},
		mail(0, 1, api.MsgToken), mail(0, 1, api.MsgBottle)))
	s, err = Deliver(s, 0, 1)
	s = step(s, err, barOf([]api.Drinker{drinker(0, api.Hungry, api.Tranquil, nil, side(1, 1, "A")), drinker(1, api.Eating, api.Thirsty, zero, side(0, 1, "FDT"))},
		mail(0, 1, api.MsgBottle)))
	s, err = Deliver(s, 0, 1) // it drinks, and eats no more: the fork goes
	s = step(s, err, barOf([]api.Drinker{drinker(0, api.Hungry, api.Tranquil, nil, side(1, 1, "A")), drinker(1, api.Thinking, api.Drinking, zero, side(0, 1, "TB"))},
		mail(1, 0, api.MsgFork)))
	s, err = Deliver(s, 1, 0)
	step(s, err, barOf([]api.Drinker{calm(0, side(1, 1, "FDA")), drinker(1, api.Thinking, api.Drinking, zero, side(0, 1, "TB"))}))
}

// odd is a bar of a graph that may be, but that needn't come from New: all lies anywhere, and anything is on its way.
func odd(g api.Graph, c *chance) api.Bar {
	forks, bottles := []string{"", "T", "F", "FT", "FD", "FDT"}, []string{"", "B", "A", "BA"}
	oddSide := func(peer int) api.Side {
		x := side(peer, 1+c.below(4)/3, pick(c, forks)+pick(c, bottles))
		x.State = api.SideState(c.below(7) % 4)
		return x
	}
	var s api.Bar
	for v := range g.N {
		d := drinker(v, pick(c, phases), pick(c, thirsts), nil)
		for w := range g.N {
			if !slices.Contains(g.Edges, api.Edge{A: min(v, w), B: max(v, w)}) {
				continue
			}
			d.Sides = append(d.Sides, oddSide(w))
			if d.Thirst != api.Tranquil && c.below(2) == 0 {
				d.Need = append(d.Need, w)
			}
		}
		s.Drinkers = append(s.Drinkers, d)
	}
	for range c.below(8) * min(g.N/2, 1) {
		m := mail(c.below(g.N), 0, api.MsgKind(1+c.below(5)))
		m.To = (m.From + 1 + c.below(g.N-1)) % g.N
		m.Msg.Epoch = 1 + c.below(4)/3
		m.Msg.Num = max(0, c.below(6)-4)
		s.Mail = append(s.Mail, m)
	}
	return s
}

// odds are such bars, of some graphs.
func odds() []api.Bar {
	c := &chance{at: 7}
	var all []api.Bar
	for _, g := range append(allUpTo(4), of(5, 0, 1, 0, 2, 0, 3, 0, 4)) {
		for range 40 {
			all = append(all, odd(g, c))
		}
	}
	for _, g := range many() {
		all = append(all, odd(g, c))
	}
	return all
}

// behindNew is the bar of a graph as table's New tells it.
func behindNew(g api.Graph) api.Bar {
	s, _ := table.New(g)
	var l []api.Drinker
	for _, d := range s.Diners {
		l = append(l, drinker(d.ID, d.Phase, api.Tranquil, nil, d.Sides...))
	}
	return barOf(l)
}

// mayBe are bars at the edges of what may be.
func mayBe() []api.Bar {
	one := calm(0, side(1, 0, ""))
	two := drinker(1, api.Eating, api.Drinking, []int{0}, side(0, api.MaxEpoch, "FDTBA"))
	l := []api.Bar{
		{}, {Drinkers: []api.Drinker{}, Mail: []api.Mail{}}, {Drinkers: make([]api.Drinker, 1)},
		barOf([]api.Drinker{{Thirst: api.Thirsty, Need: []int{}}}), barOf([]api.Drinker{{Thirst: api.Drinking}}),
		barOf([]api.Drinker{one, two}),
		barOf([]api.Drinker{one, two}, mail(0, 1, api.MsgBottle), mail(1, 0, api.MsgBottle), mail(0, 1, api.MsgBottle)),
		barOf([]api.Drinker{drinker(0, api.Hungry, api.Thirsty, nil), drinker(1, api.Eating, api.Tranquil, nil), calm(2)}, mail(0, 2, api.MsgAsk), mail(2, 1, api.MsgAsk)),
	}
	for _, x := range []int{api.MinInt, -1, 0, 1, 9, 10, api.MaxEpoch, api.MaxEpoch + 1, api.MaxInt} { // what mail says isn't asked for
		for _, msg := range []api.Msg{{Kind: api.MsgKind(x)}, {Kind: api.MsgBottle, Epoch: x}, {Kind: api.MsgColour, Num: x}, {Kind: api.MsgAsk, Num: x}} {
			l = append(l, barOf([]api.Drinker{one, two}, api.Mail{From: 1, To: 0, Msg: msg}))
		}
	}
	for _, g := range append(allUpTo(4), many()...) {
		s := behindNew(g)
		l = append(l, copied(s))
		for v := range g.N { // each one drinks from all that it has
			d := &s.Drinkers[v]
			for _, x := range d.Sides {
				if x.Bottle {
					d.Need = append(d.Need, x.Peer)
				}
				s.Mail = append(s.Mail, mail(v, x.Peer, api.MsgAsk))
			}
			d.Thirst = api.Drinking
		}
		l = append(l, s)
	}
	return append(l, odds()...)
}

// faultsOfNodes are the faults that those who dine, three, near to each other, may have.
func faultsOfNodes() []func(s *api.Bar) {
	var l []func(s *api.Bar)
	for v := range 3 {
		for _, id := range []int{-1, 0, 1, 2, 3, api.MinInt, api.MaxInt} {
			if id != v {
				l = append(l, func(s *api.Bar) { s.Drinkers[v].ID = id })
			}
		}
		for _, p := range []api.Phase{-1, 3, api.MinInt, api.MaxInt} {
			l = append(l, func(s *api.Bar) { s.Drinkers[v].Phase = p })
		}
		l = append(l,
			func(s *api.Bar) { s.Drinkers[v].Sides, s.Drinkers[v].Need = nil, nil },
			func(s *api.Bar) { s.Drinkers[v].Sides, s.Drinkers[v].Need = s.Drinkers[v].Sides[1:], nil },
			func(s *api.Bar) { slices.Reverse(s.Drinkers[v].Sides) },
			func(s *api.Bar) { s.Drinkers[v].Sides = append(s.Drinkers[v].Sides, side(3, 1, "")) },
		)
		for k := range 2 {
			for _, peer := range []int{-1, v, 3, api.MinInt, api.MaxInt} {
				l = append(l, func(s *api.Bar) { s.Drinkers[v].Sides[k].Peer, s.Drinkers[v].Need = peer, nil })
			}
			l = append(l,
				func(s *api.Bar) { s.Drinkers[v].Sides[k].Peer, s.Drinkers[v].Need = s.Drinkers[v].Sides[1-k].Peer, nil },
				func(s *api.Bar) { s.Drinkers[v].Sides[k].Epoch = -1 },
				func(s *api.Bar) { s.Drinkers[v].Sides[k].Epoch = api.MaxEpoch + 1 },
				func(s *api.Bar) { s.Drinkers[v].Sides[k].State = -1 },
				func(s *api.Bar) { s.Drinkers[v].Sides[k].State = 4 },
				func(s *api.Bar) { s.Drinkers[v].Sides[k] = side(s.Drinkers[v].Sides[k].Peer, 1, "D") },
			)
		}
	}
	return l
}

// faultsOfThirst are the faults that those who drink may have.
func faultsOfThirst() []func(s *api.Bar) {
	var l []func(s *api.Bar)
	for v := range 3 {
		for _, t := range []api.Thirst{-1, 3, api.MinInt, api.MaxInt} {
			l = append(l,
				func(s *api.Bar) { s.Drinkers[v].Thirst = t },
				func(s *api.Bar) { s.Drinkers[v].Thirst, s.Drinkers[v].Need = t, nil },
			)
		}
		x, y := min((v+1)%3, (v+2)%3), max((v+1)%3, (v+2)%3)
		for _, t := range thirsts[1:] {
			for _, need := range [][]int{{y, x}, {x, x}, {x, y, y}, {v}, {x, y, 3}, {-1, x}, {3}, {api.MinInt}, {api.MaxInt}} {
				l = append(l, func(s *api.Bar) { s.Drinkers[v].Thirst, s.Drinkers[v].Need = t, need })
			}
		}
		for _, need := range [][]int{{x}, {x, y}, {v}} { // one who is tranquil needs nothing
			l = append(l, func(s *api.Bar) { s.Drinkers[v].Thirst, s.Drinkers[v].Need = api.Tranquil, need })
		}
	}
	return l
}

// faultsOfMail are the faults that the mail of such a bar, three of it, may have.
func faultsOfMail() []func(s *api.Bar) {
	var l []func(s *api.Bar)
	for i := range 3 {
		for _, x := range []int{-1, 3, 64, api.MinInt, api.MaxInt} {
			l = append(l,
				func(s *api.Bar) { s.Mail[i].From = x },
				func(s *api.Bar) { s.Mail[i].To = x },
			)
		}
		for x := range 3 {
			l = append(l, func(s *api.Bar) { s.Mail[i].From, s.Mail[i].To = x, x })
		}
	}
	return l
}

// mayNotBe are bars each of which has one fault.
func mayNotBe() []api.Bar {
	var l []api.Bar
	for _, fault := range slices.Concat(faultsOfNodes(), faultsOfThirst(), faultsOfMail()) {
		s := barOf([]api.Drinker{
			drinker(0, api.Hungry, api.Thirsty, []int{1, 2}, side(1, 1, "FTB"), side(2, 1, "F")),
			drinker(1, api.Thinking, api.Tranquil, nil, side(0, 1, "A"), side(2, 1, "FDA")),
			drinker(2, api.Eating, api.Drinking, []int{1}, side(0, 1, "T"), side(1, 1, "TB")),
		}, mail(0, 1, api.MsgToken), mail(1, 2, api.MsgBottle), mail(2, 0, api.MsgFork))
		fault(&s)
		l = append(l, s)
	}
	alone := func(n int) []api.Drinker {
		var l []api.Drinker
		for v := range n {
			l = append(l, calm(v))
		}
		return l
	}
	all := alone(64) // with more edges than a graph may have
	for v := range all {
		for w := range all {
			if v != w {
				all[v].Sides = append(all[v].Sides, side(w, 1, ""))
			}
		}
	}
	return append(l, barOf(alone(65)), barOf(all),
		barOf(nil, api.Mail{}), barOf(nil, mail(0, 1, api.MsgFork)),
		barOf(alone(1), mail(0, 0, api.MsgAsk)), barOf(alone(1), mail(0, 1, api.MsgAsk)), barOf(alone(64), mail(63, 64, api.MsgAsk)),
		barOf([]api.Drinker{calm(0, side(1, 1, "")), calm(1)}),
		barOf([]api.Drinker{calm(0), calm(1, side(0, 1, ""))}),
		barOf([]api.Drinker{calm(0, side(0, 1, ""))}),
		barOf([]api.Drinker{calm(1), calm(0)}), barOf(alone(3)[1:]),
		barOf([]api.Drinker{drinker(0, api.Thinking, api.Thirsty, []int{1})}),
		barOf([]api.Drinker{drinker(0, api.Thinking, api.Drinking, []int{1}), calm(1)}),
	)
}

func TestCheck(t *testing.T) { // P16.1
	for _, s := range mayBe() {
		if err := Check(s); err != api.OK {
			t.Errorf("check of %+v: error %d", s, err)
		}
	}
	for _, s := range mayNotBe() {
		if err := Check(s); err != api.ErrBarForm {
			t.Errorf("check of %+v: error %d", s, err)
		}
	}
}

func TestNew(t *testing.T) { // P16.1
	for _, g := range append(allUpTo(5), many()...) {
		s, err := New(g)
		want(t, "new", api.Bar{}, s, err, behindNew(g))
	}
	s, err := New(of(3, 0, 1, 1, 2)) // colours 1, 2, 1
	want(t, "new", api.Bar{}, s, err, barOf([]api.Drinker{calm(0, side(1, 1, "TA")), calm(1, side(0, 1, "FDB"), side(2, 1, "FDB")), calm(2, side(1, 1, "TA"))}))
	for _, g := range []api.Graph{
		of(-1), of(65), of(api.MinInt), of(api.MaxInt), of(1, 0, 1), of(2, 1, 0), of(2, 0, 0), of(2, -1, 0), of(2, 1, 2),
		of(3, 0, 1, 0, 1), of(3, 0, 2, 0, 1), of(3, 1, 2, 0, 1), full(64, 401), full(65, 1),
	} {
		s, err := New(g)
		wantError(t, "new", api.Bar{}, s, err, api.ErrGraphForm)
	}
}

func TestScene(t *testing.T) { // P16.1: of bars that may not be, too
	for _, s := range slices.Concat(mayBe(), mayNotBe()) {
		like := api.Scene{Mail: s.Mail}
		for _, d := range s.Drinkers {
			like.Diners = append(like.Diners, api.Diner{ID: d.ID, Phase: d.Phase, Sides: d.Sides})
		}
		if got := Scene(s); !sameScene(got, like) {
			t.Errorf("scene of %+v: got %+v", s, got)
		}
	}
}

func TestWho(t *testing.T) { // P16.1
	l := []api.Drinker{calm(0), drinker(1, 0, api.Drinking, nil), drinker(2, 0, api.Thirsty, nil), calm(3), drinker(4, api.Eating, api.Drinking, []int{3})}
	odd := []api.Drinker{drinker(9, 0, 7, nil), drinker(4, 0, -1, nil), drinker(9, 0, 7, nil), drinker(-3, 1, 7, nil), drinker(4, api.Eating, 0, nil)} // whether they may be isn't asked for
	for _, x := range []struct {
		l    []api.Drinker
		of   api.Thirst
		want []int
	}{
		{l, api.Tranquil, []int{0, 3}}, {l, api.Thirsty, []int{2}}, {l, api.Drinking, []int{1, 4}}, {l, 3, nil}, {l, -1, nil}, {nil, api.Tranquil, nil},
		{odd, 7, []int{9, 9, -3}}, {odd, -1, []int{4}}, {odd, api.Tranquil, []int{4}}, {odd, api.Thirsty, nil}, {odd, api.Drinking, nil}, {l[:3], api.MaxInt, nil},
	} {
		if got := Who(barOf(x.l, mail(0, 1, api.MsgFork)), x.of); !slices.Equal(got, x.want) {
			t.Errorf("%v: of thirst %d: got %v, want %v", x.l, x.of, got, x.want)
		}
	}
}

// needs are what may be asked for, of some peers that are there and some that aren't.
func needs() [][]int { return [][]int{nil, {0}, {1}, {2, 0}, {-1}, {1, 2}, {99}} }

func TestMayNotBeComesFirst(t *testing.T) { // P16.2: whatever else is wrong, and if nothing is
	for _, s := range mayNotBe() {
		for _, a := range nodes {
			for _, need := range needs() {
				got, err := Open(s, a, need)
				wantError(t, "open", s, got, err, api.ErrBarForm)
			}
			got, err := Close(s, a)
			wantError(t, "close", s, got, err, api.ErrBarForm)
			for _, b := range nodes {
				got, err = Deliver(s, a, b)
				wantError(t, "deliver", s, got, err, api.ErrBarForm)
			}
		}
	}
}

// wantNoNode is that a node isn't there, for all calls.
func wantNoNode(t *testing.T, s api.Bar, a int) {
	t.Helper()
	for _, need := range needs() {
		got, err := Open(s, a, need)
		wantError(t, "open", s, got, err, api.ErrBarNode)
	}
	got, err := Close(s, a)
	wantError(t, "close", s, got, err, api.ErrBarNode)
	for _, b := range append(nodes, a) {
		got, err = Deliver(s, a, b)
		wantError(t, "deliver", s, got, err, api.ErrBarNode)
		got, err = Deliver(s, b, a)
		wantError(t, "deliver", s, got, err, api.ErrBarNode)
	}
}

func TestNodesThatAreNotThere(t *testing.T) { // P16.2
	for i, s := range mayBe() {
		if i%5 > 0 { // each asks for some thirty nodes
			continue
		}
		for _, a := range []int{api.MinInt, -64, -1, len(s.Drinkers), len(s.Drinkers) + 1, 1000, api.MaxInt} {
			wantNoNode(t, s, a)
		}
	}
}

// plain is a bar behind what became of a node, put together by hand.
func plain(s api.Bar, a int, d api.Drinker, err api.Errno) (api.Bar, api.Errno) {
	if err != api.OK {
		return api.Bar{}, err
	}
	d, out, err := drink.Fire(d)
	if err != api.OK {
		return api.Bar{}, err
	}
	other := copied(s)
	other.Drinkers[a] = d
	for _, m := range out {
		other.Mail = append(other.Mail, m)
	}
	return other, api.OK
}

// plainDeliver takes the first mail from the one to the other by hand.
func plainDeliver(s api.Bar, from, to int) (api.Bar, api.Errno) {
	left := api.Bar{Drinkers: s.Drinkers}
	var first *api.Mail
	for _, m := range s.Mail {
		if first == nil && m.From == from && m.To == to {
			first = &m
			continue
		}
		left.Mail = append(left.Mail, m)
	}
	if first == nil {
		return api.Bar{}, api.ErrBarMail
	}
	d, err := drink.Get(s.Drinkers[to], from, first.Msg)
	return plain(left, to, d, err)
}

// wantLike is that a call answers like a plain one.
func wantLike(t *testing.T, what string, s, got api.Bar, err api.Errno, like api.Bar, e api.Errno) {
	t.Helper()
	if e == api.OK {
		want(t, what, s, got, err, like)
	} else {
		wantError(t, what, s, got, err, e)
	}
}

// ways are all pairs of nodes from the one of which something is on its way to the other one, in the order of their first mail.
func ways(s api.Bar) [][2]int {
	var l [][2]int
	for _, m := range s.Mail {
		if way := [2]int{m.From, m.To}; !slices.Contains(l, way) {
			l = append(l, way)
		}
	}
	return l
}

// pairs are all pairs of nodes, or, of many nodes, some: with mail, and without.
func pairs(s api.Bar) [][2]int {
	if n := len(s.Drinkers); n > 8 {
		l := ways(s)
		return append(l[:min(len(l), 20)], [2]int{0, 1}, [2]int{n - 1, 0}, [2]int{5, 5})
	}
	var l [][2]int
	for a := range s.Drinkers {
		for b := range s.Drinkers {
			l = append(l, [2]int{a, b})
		}
	}
	return l
}

// wishes are all that a node may need of its peers, the first of them at least.
func wishes(d api.Drinker) [][]int {
	l := [][]int{nil}
	for _, x := range d.Sides[:min(len(d.Sides), 3)] {
		for _, need := range l {
			l = append(l, append(slices.Clone(need), x.Peer))
		}
	}
	return l
}

// wantPlain is that a bar is answered for like a plain one, at all its nodes.
func wantPlain(t *testing.T, s api.Bar) {
	t.Helper()
	for a, d := range s.Drinkers {
		for _, need := range append(wishes(d), []int{a}, []int{2, 1, 1}, []int{len(s.Drinkers)}) {
			opened, wrong := drink.Open(d, need)
			like, e := plain(s, a, opened, wrong)
			got, err := Open(s, a, need)
			wantLike(t, "open", s, got, err, like, e)
		}
		closed, wrong := drink.Close(d)
		like, e := plain(s, a, closed, wrong)
		got, err := Close(s, a)
		wantLike(t, "close", s, got, err, like, e)
	}
	for _, way := range pairs(s) {
		like, e := plainDeliver(s, way[0], way[1])
		got, err := Deliver(s, way[0], way[1])
		wantLike(t, "deliver", s, got, err, like, e)
	}
}

func TestAgainstPlainBars(t *testing.T) { // P16.2
	for _, s := range mayBe() {
		wantPlain(t, s)
	}
}

func TestErrorsOfOpenAndClose(t *testing.T) { // P16.2: those of chapter 15
	closing := side(2, 1, "")
	closing.State = api.SideClosing
	for _, thirst := range thirsts {
		s := barOf([]api.Drinker{calm(0, side(1, 1, "")), drinker(1, api.Hungry, thirst, nil, side(0, 1, ""), closing), calm(2, side(1, 1, ""))})
		for _, need := range [][]int{{0}, {1}, {2}, {0, 2}, {3}, {-1}} {
			got, err := Open(s, 1, need)
			switch {
			case thirst != api.Tranquil:
				wantError(t, "open", s, got, err, api.ErrDrinkState)
			case !slices.Equal(need, []int{0}):
				wantError(t, "open", s, got, err, api.ErrDrinkNeed)
			default:
				want(t, "open", s, got, err, barOf([]api.Drinker{s.Drinkers[0], drinker(1, api.Hungry, api.Thirsty, need, side(0, 1, ""), closing), s.Drinkers[2]}))
			}
		}
		got, err := Close(s, 1)
		if thirst == api.Tranquil {
			wantError(t, "close", s, got, err, api.ErrDrinkState)
			continue
		}
		want(t, "close", s, got, err, barOf([]api.Drinker{s.Drinkers[0], drinker(1, api.Hungry, api.Tranquil, nil, side(0, 1, ""), closing), s.Drinkers[2]}))
	}
}

func TestErrorsOfDeliver(t *testing.T) { // P16.2: those of chapter 15, of the first mail, whatever comes behind it
	bottle := api.Msg{Kind: api.MsgBottle, Epoch: 1}
	for _, x := range []struct {
		m    api.Msg
		want api.Errno
	}{
		{api.Msg{Kind: api.MsgFork, Epoch: 0}, api.ErrDineSide},
		{api.Msg{Kind: api.MsgAsk, Epoch: 2}, api.ErrDineSide},
		{api.Msg{}, api.ErrDineSide},
		{api.Msg{Kind: api.MsgNew, Epoch: 1}, api.ErrDineKind},
		{api.Msg{Kind: 0, Epoch: 1}, api.ErrDineKind},
		{api.Msg{Kind: api.MsgFork, Epoch: 1, Num: 1}, api.ErrDineKind},
		{api.Msg{Kind: api.MsgBottle, Epoch: 1, Num: 1}, api.ErrDineKind},
		{api.Msg{Kind: api.MsgToken, Epoch: 1}, api.ErrDineHas},
		{api.Msg{Kind: api.MsgAsk, Epoch: 1}, api.ErrDineHas},
	} {
		s := barOf([]api.Drinker{calm(0, side(1, 1, "TA")), calm(1, side(0, 1, "FDB")), calm(2)},
			mail(0, 1, api.MsgToken), mail(1, 2, api.MsgAsk), api.Mail{From: 1, To: 0, Msg: x.m}, api.Mail{From: 1, To: 0, Msg: bottle})
		got, err := Deliver(s, 1, 0)
		wantError(t, "deliver", s, got, err, x.want)
		got, err = Deliver(s, 1, 2) // they have no edge
		wantError(t, "deliver", s, got, err, api.ErrDineSide)
		for _, pair := range [][2]int{{2, 1}, {2, 0}, {0, 2}, {0, 0}, {1, 1}, {2, 2}} {
			got, err = Deliver(s, pair[0], pair[1])
			wantError(t, "deliver", s, got, err, api.ErrBarMail)
		}
		slices.Reverse(s.Mail) // now the good one is the first one; the ask is there, so it goes back
		got, err = Deliver(s, 1, 0)
		behind := append(slices.Clone(s.Mail[1:]), mail(0, 1, api.MsgBottle))
		want(t, "deliver", s, got, err, barOf([]api.Drinker{calm(0, side(1, 1, "TA")), s.Drinkers[1], s.Drinkers[2]}, behind...))
	}
}

func TestOrderOfMail(t *testing.T) { // P16.2: what goes out goes behind all mail, in order; what is left stays in order
	on := []api.Mail{mail(3, 0, api.MsgToken), mail(1, 2, api.MsgColour), mail(3, 0, api.MsgAsk)}
	s := barOf([]api.Drinker{
		calm(0, side(1, 1, "FDTBA"), side(2, 1, "TA"), side(3, 1, "FB")),
		calm(1, side(0, 1, "")), calm(2, side(0, 1, "FDB")), drinker(3, api.Hungry, api.Thirsty, []int{0}, side(0, 1, "")),
	}, on...)
	got, err := Open(s, 0, []int{2, 1})
	behind := copied(s)
	behind.Drinkers[0] = drinker(0, api.Hungry, api.Thirsty, []int{1, 2}, side(1, 1, ""), side(2, 1, ""), side(3, 1, "FB"))
	behind.Mail = append(behind.Mail, mail(0, 1, api.MsgFork), mail(0, 1, api.MsgToken), mail(0, 2, api.MsgToken), mail(0, 1, api.MsgBottle), mail(0, 1, api.MsgAsk), mail(0, 2, api.MsgAsk))
	want(t, "open", s, got, err, behind)
	next, err := Deliver(got, 0, 2)
	behind.Drinkers[2] = calm(2, side(0, 1, "TB"))
	behind.Mail = slices.Concat(on, []api.Mail{mail(0, 1, api.MsgFork), mail(0, 1, api.MsgToken), mail(0, 1, api.MsgBottle), mail(0, 1, api.MsgAsk), mail(0, 2, api.MsgAsk), mail(2, 0, api.MsgFork)})
	want(t, "deliver", got, next, err, behind)
	last, err := Deliver(next, 3, 0)
	behind.Drinkers[0].Sides[2].Token = true
	behind.Mail = behind.Mail[1:]
	want(t, "deliver", next, last, err, behind)
	s.Drinkers[0] = drinker(0, api.Eating, api.Drinking, []int{1, 3}, side(1, 1, "FDTBA"), side(2, 1, "FD"), side(3, 1, "FDTBA"))
	got, err = Close(s, 0)
	behind = copied(s)
	behind.Drinkers[0] = calm(0, side(1, 1, "TA"), side(2, 1, "FD"), side(3, 1, "TA"))
	behind.Mail = append(behind.Mail, mail(0, 1, api.MsgFork), mail(0, 3, api.MsgFork), mail(0, 1, api.MsgBottle), mail(0, 3, api.MsgBottle))
	want(t, "close", s, got, err, behind)
}

// plainCount is told side by side and mail by mail; no bar, and no edge, is asked whether it may be.
func plainCount(s api.Bar, e api.Edge, k api.MsgKind) int {
	var found []api.Side
	for v, d := range s.Drinkers {
		for _, at := range [][2]int{{e.A, e.B}, {e.B, e.A}} {
			i := slices.IndexFunc(d.Sides, func(x api.Side) bool { return x.Peer == at[1] })
			if v == at[0] && e.A != e.B && i >= 0 {
				found = append(found, d.Sides[i])
			}
		}
	}
	if len(found) != 2 || found[0].Epoch != found[1].Epoch || !slices.Contains(kinds, k) {
		return 0
	}
	all := 0
	for _, x := range found {
		if map[api.MsgKind]bool{api.MsgFork: x.Fork, api.MsgToken: x.Token, api.MsgBottle: x.Bottle, api.MsgAsk: x.Ask}[k] {
			all++
		}
	}
	for _, m := range s.Mail {
		there, back := m.From == e.A && m.To == e.B, m.From == e.B && m.To == e.A
		if (there || back) && m.Msg.Kind == k && m.Msg.Epoch == found[0].Epoch {
			all++
		}
	}
	return all
}

func wantCount(t *testing.T, s api.Bar, a, b int, k api.MsgKind, want int) {
	t.Helper()
	if got := Count(s, api.Edge{A: a, B: b}, k); got != want {
		t.Errorf("%+v: count of %d at %d, %d: got %d, want %d", s, k, a, b, got, want)
	}
}

func TestCountAgainstPlainOne(t *testing.T) { // P16.3
	for _, s := range slices.Concat(mayBe(), mayNotBe()) {
		for a := -1; a <= min(len(s.Drinkers), 20); a++ {
			for b := -1; b <= min(len(s.Drinkers), 20); b++ {
				for k := api.MsgKind(0); k <= 5; k++ {
					wantCount(t, s, a, b, k, plainCount(s, api.Edge{A: a, B: b}, k))
				}
			}
		}
	}
}

func TestCountOfFew(t *testing.T) { // P16.3: each kind alone
	pair := func(x, y string, on ...api.Mail) api.Bar {
		return barOf([]api.Drinker{calm(0, side(1, 1, x)), calm(1, side(0, 1, y))}, on...)
	}
	for i, k := range kinds {
		one := string("FTBA"[i])
		rest := strings.ReplaceAll("FTBA", one, "")
		other := kinds[(i+1)%4]
		for _, x := range []struct {
			s    api.Bar
			want int
		}{
			{pair("", ""), 0}, {pair(one, ""), 1}, {pair("", one), 1}, {pair(one, one), 2},
			{pair(rest, rest), 0}, {pair(one+rest, rest), 1},
			{pair("", "", mail(0, 1, k), mail(1, 0, k), mail(1, 0, other)), 2},
			{pair(one, one, mail(0, 1, k), mail(0, 1, k), mail(1, 0, k), mail(1, 0, other)), 5},
			{pair("", one, mail(0, 2, k), mail(2, 1, k), mail(0, 0, k), mail(1, 1, k), mail(-1, 1, k)), 1},
			// of another epoch; any number is one of that kind
			{pair(one, "", api.Mail{From: 0, To: 1, Msg: api.Msg{Kind: k, Epoch: 2}}, api.Mail{From: 1, To: 0, Msg: api.Msg{Kind: k}}), 1},
			{pair("", "", api.Mail{From: 0, To: 1, Msg: api.Msg{Kind: k, Epoch: 1, Num: 5}}), 1},
		} {
			wantCount(t, x.s, 0, 1, k, x.want)
			wantCount(t, x.s, 1, 0, k, x.want) // whichever is named first
			for _, at := range [][2]int{{0, 0}, {1, 1}, {0, 2}, {2, 1}, {2, 3}, {-1, 0}, {1, -1}, {-1, -2}, {api.MinInt, 0}, {0, api.MaxInt}} {
				wantCount(t, x.s, at[0], at[1], k, 0)
			}
		}
		wantCount(t, api.Bar{}, 0, 1, k, 0)
	}
	for _, k := range others {
		s := pair("FTBA", "FDTBA", mail(0, 1, k), mail(1, 0, k))
		wantCount(t, s, 0, 1, k, 0)
		wantCount(t, s, 1, 0, k, 0)
	}
}

func TestCountOfBarsThatMayNotBe(t *testing.T) { // P16.3: by places, whatever the IDs are; of the first sides; of one epoch
	for i, k := range kinds {
		one := string("FTBA"[i])
		on := []api.Mail{mail(0, 1, k), mail(7, 9, k)}
		named := barOf([]api.Drinker{drinker(7, 5, -1, []int{3, 1}, side(1, 1, one)), drinker(9, -1, 7, nil, side(0, 1, ""))}, on...)
		wantCount(t, named, 0, 1, k, 2)
		wantCount(t, named, 1, 0, k, 2)
		wantCount(t, named, 7, 9, k, 0)
		twice := barOf([]api.Drinker{calm(0, side(5, 1, one), side(1, 1, one), side(1, 2, one)), calm(1, side(0, 1, ""), side(0, 1, one))}, on...)
		wantCount(t, twice, 0, 1, k, 2)
		wantCount(t, barOf([]api.Drinker{calm(0, side(1, 1, one)), calm(1, side(0, 2, one))}, on...), 0, 1, k, 0)
		wantCount(t, barOf([]api.Drinker{calm(0, side(1, 2, one), side(1, 1, one)), calm(1, side(0, 1, ""))}, on...), 0, 1, k, 0)
		half := barOf([]api.Drinker{calm(0, side(1, 1, one)), calm(1)}, on...)
		wantCount(t, half, 0, 1, k, 0)
		wantCount(t, half, 1, 0, k, 0)
		halfOf0 := barOf([]api.Drinker{calm(0, side(1, 0, one)), calm(1)}, api.Mail{From: 0, To: 1, Msg: api.Msg{Kind: k}})
		wantCount(t, halfOf0, 0, 1, k, 0)
		wantCount(t, halfOf0, 1, 0, k, 0)
		wide := barOf([]api.Drinker{calm(0, side(1, -9, one)), calm(1, side(0, -9, ""))}, api.Mail{From: 1, Msg: api.Msg{Kind: k, Epoch: -9}})
		wantCount(t, wide, 0, 1, k, 2)
		round := barOf([]api.Drinker{calm(0, side(0, 1, one))}, mail(0, 0, k)) // that is one side, not two
		wantCount(t, round, 0, 0, k, 0)
	}
}

func TestSame(t *testing.T) { // P16.1
	make2 := func() api.Bar {
		x := api.Side{Peer: 3, Epoch: 4, State: api.SideClosing, Fork: true, Dirty: true}
		return barOf([]api.Drinker{drinker(1, api.Eating, api.Thirsty, []int{0, 3}, side(0, 1, "TA"), x), drinker(2, api.Thinking, api.Drinking, []int{7}, side(7, 1, "FB"))},
			mail(0, 1, api.MsgFork), api.Mail{From: 5, To: 1, Msg: api.Msg{Kind: api.MsgColour, Epoch: 3, Num: 2}})
	}
	wantSame := func(a, b api.Bar, want bool) {
		t.Helper()
		if Same(a, b) != want || Same(b, a) != want {
			t.Errorf("%+v, %+v: same %v", a, b, !want)
		}
	}
	wantSame(make2(), make2(), true)
	wantSame(api.Bar{}, api.Bar{Drinkers: []api.Drinker{}, Mail: []api.Mail{}}, true)
	wantSame(barOf(make([]api.Drinker, 1)), barOf([]api.Drinker{{Diner: api.Diner{Sides: []api.Side{}}, Need: []int{}}}), true)
	wantSame(api.Bar{}, barOf(make([]api.Drinker, 1)), false)
	wantSame(api.Bar{}, barOf(nil, api.Mail{}), false)
	for at := range 2 {
		for _, change := range []func(d *api.Drinker, x *api.Side, m *api.Mail){
			func(d *api.Drinker, _ *api.Side, _ *api.Mail) { d.ID++ },
			func(d *api.Drinker, _ *api.Side, _ *api.Mail) { d.Phase++ },
			func(d *api.Drinker, _ *api.Side, _ *api.Mail) { d.Thirst++ },
			func(d *api.Drinker, _ *api.Side, _ *api.Mail) { d.Need = nil },
			func(d *api.Drinker, _ *api.Side, _ *api.Mail) { d.Need[len(d.Need)-1]++ },
			func(d *api.Drinker, _ *api.Side, _ *api.Mail) { d.Need = append(d.Need, 0) },
			func(d *api.Drinker, _ *api.Side, _ *api.Mail) { d.Sides = d.Sides[1:] },
			func(d *api.Drinker, _ *api.Side, _ *api.Mail) { d.Sides = append(d.Sides, api.Side{}) },
			func(_ *api.Drinker, x *api.Side, _ *api.Mail) { x.Peer++ },
			func(_ *api.Drinker, x *api.Side, _ *api.Mail) { x.Epoch++ },
			func(_ *api.Drinker, x *api.Side, _ *api.Mail) { x.State++ },
			func(_ *api.Drinker, x *api.Side, _ *api.Mail) { x.Fork = !x.Fork },
			func(_ *api.Drinker, x *api.Side, _ *api.Mail) { x.Dirty = !x.Dirty },
			func(_ *api.Drinker, x *api.Side, _ *api.Mail) { x.Token = !x.Token },
			func(_ *api.Drinker, x *api.Side, _ *api.Mail) { x.Bottle = !x.Bottle },
			func(_ *api.Drinker, x *api.Side, _ *api.Mail) { x.Ask = !x.Ask },
			func(_ *api.Drinker, _ *api.Side, m *api.Mail) { m.From++ },
			func(_ *api.Drinker, _ *api.Side, m *api.Mail) { m.To++ },
			func(_ *api.Drinker, _ *api.Side, m *api.Mail) { m.Msg.Kind++ },
			func(_ *api.Drinker, _ *api.Side, m *api.Mail) { m.Msg.Epoch++ },
			func(_ *api.Drinker, _ *api.Side, m *api.Mail) { m.Msg.Num++ },
		} {
			other := make2()
			d := &other.Drinkers[at]
			change(d, &d.Sides[len(d.Sides)-1], &other.Mail[at])
			wantSame(make2(), other, false)
		}
	}
	for _, change := range []func(s *api.Bar){
		func(s *api.Bar) { slices.Reverse(s.Mail) },
		func(s *api.Bar) { slices.Reverse(s.Drinkers) },
		func(s *api.Bar) { slices.Reverse(s.Drinkers[0].Need) },
		func(s *api.Bar) { s.Mail = s.Mail[1:] },
		func(s *api.Bar) { s.Mail = s.Mail[:1] },
		func(s *api.Bar) { s.Mail = nil },
		func(s *api.Bar) { s.Mail = append(s.Mail, s.Mail[1]) },
		func(s *api.Bar) { s.Drinkers = s.Drinkers[:1] },
		func(s *api.Bar) { s.Drinkers = append(s.Drinkers, api.Drinker{}) },
	} {
		other := make2()
		change(&other)
		wantSame(make2(), other, false)
	}
	for _, s := range mayNotBe() { // whether they may be isn't asked for
		wantSame(s, copied(s), true)
	}
}

// nexts are all bars that may come behind one, by all wishes; who is thirsty may give up.
func nexts(t *testing.T, s api.Bar, wishes func(d api.Drinker) [][]int) []api.Bar {
	t.Helper()
	var l []api.Bar
	keep := func(other api.Bar, err api.Errno) {
		if err != api.OK {
			t.Fatalf("behind %+v: error %d", s, err)
		}
		l = append(l, other)
	}
	for a, d := range s.Drinkers {
		if d.Thirst != api.Tranquil {
			keep(Close(s, a))
			continue
		}
		for _, need := range wishes(d) {
			keep(Open(s, a, need))
		}
	}
	for _, way := range ways(s) {
		keep(Deliver(s, way[0], way[1]))
	}
	return l
}

// bits are these as a number.
func bits(l ...bool) byte {
	var n byte
	for i, is := range l {
		if is {
			n += 1 << i
		}
	}
	return n
}

// key is a text of a bar of epoch 1, the same one for two whose mail is in the same order on each way.
func key(s api.Bar) string {
	var b []byte
	for _, d := range s.Drinkers {
		b = append(b, byte(d.Phase)<<4+byte(d.Thirst))
		for _, x := range d.Sides {
			b = append(b, bits(x.Fork, x.Dirty, x.Token, x.Bottle, x.Ask, slices.Contains(d.Need, x.Peer)))
		}
	}
	for a := range s.Drinkers {
		for c := range s.Drinkers {
			b = append(b, 255)
			for _, m := range s.Mail {
				if m.From == a && m.To == c {
					b = append(b, byte(m.Msg.Kind))
				}
			}
		}
	}
	return string(b)
}

// reached are all bars that come from New on, whatever is done, in whatever order.
func reached(t *testing.T, g api.Graph, wishes func(d api.Drinker) [][]int) []api.Bar {
	t.Helper()
	first, err := New(g)
	if err != api.OK {
		t.Fatal(g, err)
	}
	seen := map[string]bool{key(first): true}
	all := []api.Bar{first}
	for i := 0; i < len(all); i++ {
		for _, s := range nexts(t, all[i], wishes) {
			if k := key(s); !seen[k] {
				seen[k] = true
				all = append(all, s)
			}
		}
	}
	return all
}

// wantWhole is what always holds, from New on.
func wantWhole(t *testing.T, g api.Graph, s api.Bar) {
	t.Helper()
	if err := Check(s); err != api.OK {
		t.Fatalf("%v: error %d: %+v", g, err, s)
	}
	for _, e := range g.Edges {
		for _, k := range kinds {
			if Count(s, e, k) != 1 || plainCount(s, e, k) != 1 {
				t.Fatalf("%v: not one of %d: %+v", e, k, s)
			}
		}
		if drinksFrom(s, e.A, e.B) && drinksFrom(s, e.B, e.A) {
			t.Fatalf("%v: two neighbours drink from one bottle: %+v", e, s)
		}
	}
	for a, d := range s.Drinkers {
		for _, x := range d.Sides {
			if drinksFrom(s, a, x.Peer) && !x.Bottle {
				t.Fatalf("%d drinks, and hasn't the bottle of %d: %+v", a, x.Peer, s)
			}
		}
	}
	arcs := place.Arcs(Scene(s))
	if len(arcs) != len(g.Edges) {
		t.Fatalf("%v: %d arcs: %+v", g, len(arcs), s)
	}
	if _, straight := dag.Order(g.N, arcs); !straight {
		t.Fatalf("%v: they lead round: %v", g, arcs)
	}
}

// drinksFrom is whether a node drinks from its bottle with a peer.
func drinksFrom(s api.Bar, a, peer int) bool {
	return s.Drinkers[a].Thirst == api.Drinking && slices.Contains(s.Drinkers[a].Need, peer)
}

// flowing is a bar behind all mail: which comes next is told by pick, of the ways that there are.
func flowing(t *testing.T, s api.Bar, pick func(n int) int) api.Bar {
	t.Helper()
	for l := ways(s); len(l) > 0; l = ways(s) {
		way := l[pick(len(l))]
		next, err := Deliver(s, way[0], way[1])
		if err != api.OK {
			t.Fatalf("deliver %v of %+v: error %d", way, s, err)
		}
		s = next
	}
	return s
}

// allOut is a bar in which each of these nodes did that.
func allOut(t *testing.T, s api.Bar, nodes []int, act func(s api.Bar, a int) (api.Bar, api.Errno)) api.Bar {
	t.Helper()
	for _, a := range nodes {
		next, err := act(s, a)
		if err != api.OK {
			t.Fatalf("%d of %+v: error %d", a, s, err)
		}
		s = next
	}
	return s
}

// everything is the wish for all bottles of one's edges.
func everything(d api.Drinker) [][]int {
	var need []int
	for _, x := range d.Sides {
		need = append(need, x.Peer)
	}
	return [][]int{need}
}

func openAll(s api.Bar, a int) (api.Bar, api.Errno) {
	return Open(s, a, everything(s.Drinkers[a])[0])
}

// wantServed is that all who are thirsty drink, when all mail comes, and all who drink are tranquil again, as often as there are nodes; and if all the others are thirsty again each time, twice as often: who drinks from bottles that it kept doesn't eat for it, so it still goes ahead.
func wantServed(t *testing.T, s api.Bar, again bool, pick func(n int) int) {
	t.Helper()
	waits, first, rounds := Who(s, api.Thirsty), s, len(s.Drinkers)
	if again {
		rounds *= 2
	}
	for ; rounds > 0 && len(waits) > 0; rounds-- {
		if again {
			s = allOut(t, s, Who(s, api.Tranquil), openAll)
		}
		s = flowing(t, s, pick)
		drinking := Who(s, api.Drinking)
		waits = slices.DeleteFunc(waits, func(a int) bool { return slices.Contains(drinking, a) })
		s = allOut(t, s, drinking, Close)
	}
	if len(waits) > 0 {
		t.Fatalf("%v don't drink, again %v, from %+v on", waits, again, first)
	}
}

func oldest(int) int { return 0 }

func newest(n int) int { return n - 1 }

func TestWhatFollowsInSmallBars(t *testing.T) { // P16.4: in all bars, whatever is needed
	for _, g := range []api.Graph{of(0), of(1), of(2), of(2, 0, 1), of(3), of(3, 0, 2)} {
		for _, s := range reached(t, g, wishes) {
			wantWhole(t, g, s)
			for _, again := range []bool{false, true} {
				wantServed(t, s, again, oldest)
				wantServed(t, s, again, newest)
			}
		}
	}
}

func TestWhatFollowsInARow(t *testing.T) { // P16.4: in all bars in which all is needed
	g := of(3, 0, 1, 1, 2)
	for i, s := range reached(t, g, everything) {
		wantWhole(t, g, s)
		if i%23 == 0 {
			wantServed(t, s, i%2 == 0, oldest)
			wantServed(t, s, i%2 == 1, newest)
		}
	}
}

// walk is a row of acts here and there, from New on; told is asked behind each one.
func walk(t *testing.T, g api.Graph, c *chance, acts int, told func(s api.Bar)) {
	t.Helper()
	s, _ := New(g)
	for range acts {
		next, err := s, api.OK
		a := c.below(g.N)
		switch l := ways(s); {
		case len(l) > 0 && c.below(3) > 0:
			way := pick(c, l)
			next, err = Deliver(s, way[0], way[1])
		case s.Drinkers[a].Thirst == api.Tranquil:
			var need []int
			for _, x := range s.Drinkers[a].Sides {
				if c.below(3) > 0 {
					need = append(need, x.Peer)
				}
			}
			next, err = Open(s, a, need)
		case s.Drinkers[a].Thirst == api.Drinking || c.below(9) == 0: // who is thirsty seldom gives up
			next, err = Close(s, a)
		}
		if err != api.OK {
			t.Fatalf("behind %+v: error %d", s, err)
		}
		s = next
		told(s)
	}
}

func TestWhatFollowsInLongRows(t *testing.T) { // P16.4: here and there
	c := &chance{at: 3}
	ring, path := of(8, 0, 1, 0, 7, 1, 2, 2, 3, 3, 4, 4, 5, 5, 6, 6, 7), of(8, 0, 1, 1, 2, 2, 3, 3, 4, 4, 5, 5, 6, 6, 7)
	for _, g := range slices.Concat(allOf(3), allOf(4), []api.Graph{full(7, 21), ring, path}) {
		turn := 0
		walk(t, g, c, 150, func(s api.Bar) {
			wantWhole(t, g, s)
			if turn++; turn%5 == 0 {
				wantServed(t, s, c.below(2) > 0, c.below)
			}
		})
	}
	for _, g := range many() {
		turn := 0
		walk(t, g, c, 600, func(s api.Bar) {
			if turn++; turn%100 == 0 {
				wantWhole(t, g, s)
			}
			if turn == 600 {
				wantServed(t, s, false, c.below)
			}
		})
	}
}

// answers are the bars that all calls answer.
func answers(s api.Bar) []api.Bar {
	var l []api.Bar
	keep := func(other api.Bar, err api.Errno) {
		if err == api.OK {
			l = append(l, other)
		}
	}
	for a := range min(len(s.Drinkers), 6) {
		keep(Open(s, a, nil))
		for _, x := range s.Drinkers[a].Sides {
			keep(Open(s, a, []int{x.Peer}))
		}
		keep(Close(s, a))
		for b := range min(len(s.Drinkers), 6) {
			keep(Deliver(s, a, b))
		}
	}
	return l
}

// roomy is a row with spare room, and the whole of its memory.
func roomy[T any](row []T, spare T) ([]T, []T) {
	whole := append(slices.Clone(row), spare)
	return whole[:len(row)], whole
}

func TestGraphHandedInStays(t *testing.T) { // the rules that hold everywhere
	for _, g := range append(allOf(4), full(64, 400), of(2, 1, 0)) {
		edges, all := roomy(g.Edges, api.Edge{A: 7, B: 8})
		New(api.Graph{N: g.N, Edges: edges})
		if !slices.Equal(edges, g.Edges) || all[len(edges)] != (api.Edge{A: 7, B: 8}) {
			t.Errorf("%v is changed: %v", g, all)
		}
	}
}

func TestHandedInStays(t *testing.T) { // the rules that hold everywhere
	spare := side(70, 8, "FTB")
	for _, s := range slices.Concat(odds(), mayNotBe()) {
		given := copied(s)
		var sides [][]api.Side
		var needs [][]int
		for v := range given.Drinkers {
			d := &given.Drinkers[v]
			var wholeSides []api.Side
			var wholeNeed []int
			d.Sides, wholeSides = roomy(d.Sides, spare)
			d.Need, wholeNeed = roomy(d.Need, 70)
			sides, needs = append(sides, wholeSides), append(needs, wholeNeed)
		}
		var all []api.Drinker
		given.Drinkers, all = roomy(given.Drinkers, calm(50))
		var allMail []api.Mail
		given.Mail, allMail = roomy(given.Mail, mail(50, 51, api.MsgAsk))
		answers(given)
		Check(given)
		Same(given, given)
		Scene(given)
		Who(given, api.Tranquil)
		Count(given, api.Edge{A: 0, B: 1}, api.MsgFork)
		Count(given, api.Edge{A: 0, B: 1}, api.MsgAsk)
		spared := all[len(s.Drinkers)].ID == 50 && allMail[len(s.Mail)] == mail(50, 51, api.MsgAsk)
		for v, d := range s.Drinkers {
			spared = spared && sides[v][len(d.Sides)] == spare && needs[v][len(d.Need)] == 70
		}
		if !same(given, s) || !spared {
			t.Errorf("%+v is changed: %+v, %v, %v, %v", s, given, sides, needs, allMail)
		}
	}
	row := []int{2, 1, 2, 77}
	s := behindNew(full(3, 3))
	if _, err := Open(s, 0, row[:3]); err != api.OK || !slices.Equal(row, []int{2, 1, 2, 77}) {
		t.Errorf("%v is changed, error %d", row, err)
	}
}

// spoil makes something else of all of a row, its spare room too.
func spoil[T any](row []T, other T) {
	row = row[:cap(row)]
	for i := range row {
		row[i] = other
	}
}

func TestAnswersAreNewMemory(t *testing.T) { // the rules that hold everywhere
	for _, s := range odds() {
		given := copied(s)
		got, again := answers(given), answers(copied(s))
		for i, answer := range got { // each one is spoilt when those ahead are spoilt already
			for v := range answer.Drinkers { // and so are the lists of one answer
				d, like := answer.Drinkers[v], again[i].Drinkers[v]
				if !slices.Equal(d.Sides, like.Sides) || !slices.Equal(d.Need, like.Need) {
					t.Errorf("%+v: the sides or needs of %d are shared", s, v)
				}
				spoil(d.Sides, side(70, 8, "F"))
				spoil(d.Need, -50)
			}
			if !slices.Equal(answer.Mail, again[i].Mail) {
				t.Errorf("%+v: mail is shared", s)
			}
			spoil(answer.Mail, api.Mail{From: -50})
			spoil(answer.Drinkers, calm(-50))
		}
		shown := Scene(given)
		for _, d := range shown.Diners {
			spoil(d.Sides, side(70, 8, "F"))
		}
		spoil(shown.Diners, api.Diner{ID: -50})
		spoil(shown.Mail, api.Mail{From: -50})
		spoil(Who(given, api.Tranquil), -50)
		if !same(given, s) {
			t.Errorf("%+v: shared by an answer", s)
		}
	}
	need := []int{1, 2}
	got, _ := Open(behindNew(full(3, 3)), 0, need)
	spoil(got.Drinkers[0].Need, -50)
	if !slices.Equal(need, []int{1, 2}) {
		t.Errorf("%v: shared by an answer", need)
	}
}

func TestLongRows(t *testing.T) { // P1: every call ends, at rows of many too
	const much = 1000000
	drinkers := []api.Drinker{drinker(0, api.Eating, api.Drinking, []int{1}, side(1, 1, "FDTBA")), drinker(1, api.Hungry, api.Thirsty, []int{0}, side(0, 1, ""))}
	on := make([]api.Mail, much)
	for i := range on {
		on[i] = mail(0, 1, api.MsgBottle)
	}
	on[much-1] = mail(1, 0, api.MsgAsk)
	s := barOf(drinkers, on...)
	wantCount(t, s, 0, 1, api.MsgBottle, much)
	wantCount(t, s, 0, 1, api.MsgFork, 1)
	got, err := Close(s, 0)
	if err != api.OK || len(got.Mail) != much+2 || got.Mail[much] != mail(0, 1, api.MsgFork) || got.Mail[much+1] != mail(0, 1, api.MsgBottle) || Check(got) != api.OK || Same(got, s) {
		t.Error("close with much mail:", err, len(got.Mail))
	}
	if got, err := Deliver(s, 1, 0); err != api.ErrDineHas || !same(got, api.Bar{}) {
		t.Error("deliver with much mail:", err, len(got.Mail))
	}
	if len(Scene(s).Mail) != much {
		t.Error("scene of much mail")
	}
	if got, err := Open(behindNew(of(2, 0, 1)), 0, slices.Repeat([]int{1}, much)); err != api.OK || !slices.Equal(got.Drinkers[0].Need, []int{1}) {
		t.Error("open with much that is needed:", err)
	}
	on[much-1].To = 2
	wantError(t, "check", api.Bar{}, api.Bar{}, Check(s), api.ErrBarForm)
	alone := make([]api.Drinker, much)
	for v := range alone {
		alone[v].ID = v
	}
	crowd := barOf(alone)
	if got, err := Open(crowd, 0, nil); err != api.ErrBarForm || !same(got, api.Bar{}) || len(Who(crowd, api.Tranquil)) != much || len(Scene(crowd).Diners) != much {
		t.Error("many nodes:", err)
	}
	wide := barOf([]api.Drinker{{Diner: api.Diner{Sides: make([]api.Side, much)}}, {Thirst: api.Thirsty, Need: make([]int, much)}})
	if Check(wide) != api.ErrBarForm || !Same(wide, wide) {
		t.Error("check of many sides and needs")
	}
}
