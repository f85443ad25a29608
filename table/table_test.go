package table

import (
	"slices"
	"strings"
	"testing"

	"narthex/api"
	"narthex/colour"
	"narthex/dag"
	"narthex/dine"
	"narthex/place"
)

var phases = []api.Phase{api.Thinking, api.Hungry, api.Eating}

// of is a graph of these edges, each of two numbers.
func of(n int, nodes ...int) api.Graph {
	g := api.Graph{N: n}
	for pair := range slices.Chunk(nodes, 2) {
		g.Edges = append(g.Edges, api.Edge{A: pair[0], B: pair[1]})
	}
	return g
}

// full is a graph of n nodes, each near to the others, as long as there are edges left, the first ones first.
func full(n, edges int) api.Graph {
	g := api.Graph{N: n}
	for a := range n {
		for b := a + 1; b < n && edges > 0; b++ {
			g.Edges = append(g.Edges, api.Edge{A: a, B: b})
			edges--
		}
	}
	return g
}

// allOf are all graphs of n nodes.
func allOf(n int) []api.Graph {
	edges := full(n, n*n).Edges
	var all []api.Graph
	for some := range 1 << len(edges) {
		g := api.Graph{N: n}
		for i, e := range edges {
			if some>>i&1 == 1 {
				g.Edges = append(g.Edges, e)
			}
		}
		all = append(all, g)
	}
	return all
}

// allUpTo are all graphs of up to n nodes.
func allUpTo(n int) []api.Graph {
	var all []api.Graph
	for k := range n + 1 {
		all = append(all, allOf(k)...)
	}
	return all
}

// many are graphs of many nodes: with edges here and there, and at the limits.
func many() []api.Graph {
	c := chance(1)
	all := []api.Graph{of(64), of(64, 0, 63), full(28, 378), full(64, 400), full(20, 190)}
	for range 3 {
		g := api.Graph{N: api.MaxNodes}
		for _, e := range full(api.MaxNodes, 2016).Edges {
			if c.of(6) == 0 && len(g.Edges) < api.MaxEdges {
				g.Edges = append(g.Edges, e)
			}
		}
		all = append(all, g)
	}
	return all
}

// chance is numbers here and there, always the same ones.
type chance uint32

func (c *chance) of(n int) int {
	*c = *c*1664525 + 1013904223
	return int(*c>>8) % n
}

// side is a side with these: Fork, Dirty, Token, Bottle, Ask, by their first letters.
func side(peer, epoch int, what string) api.Side {
	return api.Side{
		Peer: peer, Epoch: epoch,
		Fork: strings.Contains(what, "F"), Dirty: strings.Contains(what, "D"), Token: strings.Contains(what, "T"),
		Bottle: strings.Contains(what, "B"), Ask: strings.Contains(what, "A"),
	}
}

// diner is one of that id with these sides.
func diner(id int, p api.Phase, l ...api.Side) api.Diner {
	return api.Diner{ID: id, Phase: p, Sides: l}
}

// mail is a message, of epoch 1, on its way.
func mail(from, to int, k api.MsgKind) api.Mail {
	return api.Mail{From: from, To: to, Msg: api.Msg{Kind: k, Epoch: 1}}
}

func scene(l []api.Diner, on ...api.Mail) api.Scene { return api.Scene{Diners: l, Mail: on} }

// same is told field by field.
func same(a, b api.Scene) bool {
	if len(a.Diners) != len(b.Diners) || len(a.Mail) != len(b.Mail) {
		return false
	}
	for i, d := range a.Diners {
		e := b.Diners[i]
		if d.ID != e.ID || d.Phase != e.Phase || len(d.Sides) != len(e.Sides) {
			return false
		}
		for k, x := range d.Sides {
			y := e.Sides[k]
			if x.Peer != y.Peer || x.Epoch != y.Epoch || x.State != y.State || x.Fork != y.Fork || x.Dirty != y.Dirty ||
				x.Token != y.Token || x.Bottle != y.Bottle || x.Ask != y.Ask {
				return false
			}
		}
	}
	for i, m := range a.Mail {
		o := b.Mail[i]
		if m.From != o.From || m.To != o.To || m.Msg.Kind != o.Msg.Kind || m.Msg.Epoch != o.Msg.Epoch || m.Msg.Num != o.Msg.Num {
			return false
		}
	}
	return true
}

func copied(s api.Scene) api.Scene {
	other := api.Scene{Mail: append([]api.Mail(nil), s.Mail...)}
	for _, d := range s.Diners {
		d.Sides = append([]api.Side(nil), d.Sides...)
		other.Diners = append(other.Diners, d)
	}
	return other
}

// want is what a call that has no error answers.
func want(t *testing.T, what string, s, got api.Scene, err api.Errno, want api.Scene) {
	t.Helper()
	if err != api.OK || !same(got, want) {
		t.Errorf("%s of %+v: got %+v, error %d, want %+v", what, s, got, err, want)
	}
}

// wantError is what a call that has one answers.
func wantError(t *testing.T, what string, s, got api.Scene, err, want api.Errno) {
	t.Helper()
	if err != want || !same(got, api.Scene{}) {
		t.Errorf("%s of %+v: got %+v, error %d, want error %d", what, s, got, err, want)
	}
}

func TestExample(t *testing.T) { // P14.2
	s := scene([]api.Diner{diner(0, api.Thinking, side(1, 1, "TA")), diner(1, api.Thinking, side(0, 1, "FDB"))})
	a, err := Start(s, 0)
	want(t, "start", s, a, err, scene([]api.Diner{diner(0, api.Hungry, side(1, 1, "A")), diner(1, api.Thinking, side(0, 1, "FDB"))}, mail(0, 1, api.MsgToken)))
	b, err := Deliver(a, 0, 1)
	want(t, "deliver", a, b, err, scene([]api.Diner{diner(0, api.Hungry, side(1, 1, "A")), diner(1, api.Thinking, side(0, 1, "TB"))}, mail(1, 0, api.MsgFork)))
	c, err := Deliver(b, 1, 0)
	want(t, "deliver", b, c, err, scene([]api.Diner{diner(0, api.Eating, side(1, 1, "FDA")), diner(1, api.Thinking, side(0, 1, "TB"))}))
	d, err := Start(c, 1)
	want(t, "start", c, d, err, scene([]api.Diner{diner(0, api.Eating, side(1, 1, "FDA")), diner(1, api.Hungry, side(0, 1, "B"))}, mail(1, 0, api.MsgToken)))
	e, err := Deliver(d, 1, 0)
	want(t, "deliver", d, e, err, scene([]api.Diner{diner(0, api.Eating, side(1, 1, "FDTA")), diner(1, api.Hungry, side(0, 1, "B"))}))
	f, err := Stop(e, 0)
	want(t, "stop", e, f, err, scene([]api.Diner{diner(0, api.Thinking, side(1, 1, "TA")), diner(1, api.Hungry, side(0, 1, "B"))}, mail(0, 1, api.MsgFork)))
}

// odd is a scene of a graph that may be, but that needn't come from New: forks, tokens and epochs lie anywhere, and anything is on its way.
func odd(g api.Graph, c *chance) api.Scene {
	lies := []string{"", "T", "F", "FT", "FD", "FDT"}
	rest := []string{"", "B", "A", "BA"}
	oddSide := func(peer int) api.Side {
		x := side(peer, 1+c.of(4)/3, lies[c.of(6)]+rest[c.of(4)])
		x.State = api.SideState(c.of(4))
		return x
	}
	var s api.Scene
	for v := range g.N {
		d := diner(v, phases[c.of(3)])
		for w := range g.N {
			if slices.Contains(g.Edges, api.Edge{A: min(v, w), B: max(v, w)}) {
				d.Sides = append(d.Sides, oddSide(w))
			}
		}
		s.Diners = append(s.Diners, d)
	}
	for range c.of(8) * min(g.N/2, 1) {
		m := mail(c.of(g.N), 0, api.MsgKind(1+c.of(3)))
		m.To = (m.From + 1 + c.of(g.N-1)) % g.N
		m.Msg.Epoch = 1 + c.of(4)/3
		m.Msg.Num = max(0, c.of(6)-4)
		s.Mail = append(s.Mail, m)
	}
	return s
}

// odds are such scenes, of some graphs.
func odds() []api.Scene {
	c := chance(7)
	var all []api.Scene
	for _, g := range append(allUpTo(4), of(5, 0, 1, 0, 2, 0, 3, 0, 4)) {
		for range 40 {
			all = append(all, odd(g, &c))
		}
	}
	for _, g := range many() {
		all = append(all, odd(g, &c))
	}
	return all
}

// mayBe are scenes at the edges of what may be.
func mayBe() []api.Scene {
	one := diner(0, api.Thinking, side(1, 0, ""))
	two := diner(1, api.Eating, side(0, api.MaxEpoch, "FDTBA"))
	l := []api.Scene{
		{}, {Diners: []api.Diner{}, Mail: []api.Mail{}}, {Diners: make([]api.Diner, 1)},
		scene([]api.Diner{one, two}),
		scene([]api.Diner{one, two}, mail(0, 1, api.MsgFork), mail(1, 0, api.MsgFork), mail(0, 1, api.MsgFork)),
		scene([]api.Diner{diner(0, api.Hungry), diner(1, api.Eating), diner(2, api.Thinking)}, mail(0, 2, api.MsgToken), mail(2, 1, api.MsgToken)),
	}
	for _, x := range []int{api.MinInt, -1, 0, 1, 9, 10, api.MaxEpoch, api.MaxEpoch + 1, api.MaxInt} { // what mail says isn't asked for
		for _, msg := range []api.Msg{{Kind: api.MsgKind(x)}, {Kind: api.MsgFork, Epoch: x}, {Kind: api.MsgColour, Num: x}} {
			l = append(l, scene([]api.Diner{one, two}, api.Mail{From: 1, To: 0, Msg: msg}))
		}
	}
	for _, g := range append(allUpTo(4), many()...) {
		c, _, _ := colour.Run(g)
		diners, _ := place.Table(g, c)
		s := scene(diners)
		for a := range g.N {
			for b := range g.N {
				if a != b {
					s.Mail = append(s.Mail, mail(a, b, api.MsgAsk))
				}
			}
		}
		l = append(l, scene(diners), s)
	}
	return append(l, odds()...)
}

// faultsOfNodes are the faults that a scene of three nodes, near to each other, may have.
func faultsOfNodes() []func(s *api.Scene) {
	var l []func(s *api.Scene)
	for v := range 3 {
		for _, id := range []int{-1, 0, 1, 2, 3, api.MinInt, api.MaxInt} {
			if id != v {
				l = append(l, func(s *api.Scene) { s.Diners[v].ID = id })
			}
		}
		for _, p := range []api.Phase{-1, 3, api.MinInt, api.MaxInt} {
			l = append(l, func(s *api.Scene) { s.Diners[v].Phase = p })
		}
		l = append(l,
			func(s *api.Scene) { s.Diners[v].Sides = nil },
			func(s *api.Scene) { s.Diners[v].Sides = s.Diners[v].Sides[1:] },
			func(s *api.Scene) { slices.Reverse(s.Diners[v].Sides) },
			func(s *api.Scene) { s.Diners[v].Sides = append(s.Diners[v].Sides, side(3, 1, "")) },
		)
		for k := range 2 {
			for _, peer := range []int{-1, v, 3, api.MinInt, api.MaxInt} {
				l = append(l, func(s *api.Scene) { s.Diners[v].Sides[k].Peer = peer })
			}
			l = append(l,
				func(s *api.Scene) { s.Diners[v].Sides[k].Peer = s.Diners[v].Sides[1-k].Peer },
				func(s *api.Scene) { s.Diners[v].Sides[k].Epoch = -1 },
				func(s *api.Scene) { s.Diners[v].Sides[k].Epoch = api.MaxEpoch + 1 },
				func(s *api.Scene) { s.Diners[v].Sides[k].State = -1 },
				func(s *api.Scene) { s.Diners[v].Sides[k].State = 4 },
				func(s *api.Scene) { s.Diners[v].Sides[k] = side(s.Diners[v].Sides[k].Peer, 1, "D") },
			)
		}
	}
	return l
}

// faultsOfMail are the faults that the mail of such a scene, three of it, may have.
func faultsOfMail() []func(s *api.Scene) {
	var l []func(s *api.Scene)
	for i := range 3 {
		for _, x := range []int{-1, 3, 64, api.MinInt, api.MaxInt} {
			l = append(l,
				func(s *api.Scene) { s.Mail[i].From = x },
				func(s *api.Scene) { s.Mail[i].To = x },
			)
		}
		for x := range 3 {
			l = append(l, func(s *api.Scene) { s.Mail[i].From, s.Mail[i].To = x, x })
		}
	}
	return l
}

// mayNotBe are scenes each of which has one fault.
func mayNotBe() []api.Scene {
	var l []api.Scene
	for _, fault := range append(faultsOfNodes(), faultsOfMail()...) {
		s := scene([]api.Diner{
			diner(0, api.Hungry, side(1, 1, "FT"), side(2, 1, "F")),
			diner(1, api.Thinking, side(0, 1, ""), side(2, 1, "FD")),
			diner(2, api.Eating, side(0, 1, "T"), side(1, 1, "T")),
		}, mail(0, 1, api.MsgToken), mail(1, 2, api.MsgFork), mail(2, 0, api.MsgFork))
		fault(&s)
		l = append(l, s)
	}
	alone := func(n int) []api.Diner {
		var l []api.Diner
		for v := range n {
			l = append(l, diner(v, api.Thinking))
		}
		return l
	}
	all := alone(64) // with more edges than a graph may have
	for v := range all {
		for w := range all {
			if v != w {
				all[v].Sides = append(all[v].Sides, side(w, 1, ""))
			}
		}
	}
	return append(l, scene(alone(65)), scene(all),
		scene(nil, api.Mail{}), scene(nil, mail(0, 1, api.MsgFork)),
		scene(alone(1), mail(0, 0, api.MsgFork)), scene(alone(1), mail(0, 1, api.MsgFork)), scene(alone(64), mail(63, 64, api.MsgFork)),
		scene([]api.Diner{diner(0, api.Thinking, side(1, 1, "")), diner(1, api.Thinking)}),
		scene([]api.Diner{diner(0, api.Thinking), diner(1, api.Thinking, side(0, 1, ""))}),
		scene([]api.Diner{diner(0, api.Thinking, side(0, 1, ""))}),
		scene([]api.Diner{diner(1, api.Thinking), diner(0, api.Thinking)}), scene(alone(3)[1:]),
	)
}

func TestCheck(t *testing.T) { // P14.1
	for _, s := range mayBe() {
		if err := Check(s); err != api.OK {
			t.Errorf("check of %+v: error %d", s, err)
		}
	}
	for _, s := range mayNotBe() {
		if err := Check(s); err != api.ErrTableForm {
			t.Errorf("check of %+v: error %d", s, err)
		}
	}
}

func TestNew(t *testing.T) { // P14.1
	for _, g := range append(allUpTo(5), many()...) {
		c, _, _ := colour.Run(g)
		diners, _ := place.Table(g, c)
		s, err := New(g)
		want(t, "new", api.Scene{}, s, err, scene(diners))
	}
	s, err := New(of(3, 0, 1, 1, 2)) // colours 1, 2, 1
	want(t, "new", api.Scene{}, s, err, scene([]api.Diner{
		diner(0, api.Thinking, side(1, 1, "TA")),
		diner(1, api.Thinking, side(0, 1, "FDB"), side(2, 1, "FDB")),
		diner(2, api.Thinking, side(1, 1, "TA")),
	}))
	for _, g := range []api.Graph{
		of(-1), of(65), of(api.MinInt), of(api.MaxInt), of(1, 0, 1), of(2, 1, 0), of(2, 0, 0), of(2, -1, 0), of(2, 1, 2),
		of(3, 0, 1, 0, 1), of(3, 0, 2, 0, 1), of(3, 1, 2, 0, 1), full(64, 401), full(65, 1),
	} {
		s, err := New(g)
		wantError(t, "new", api.Scene{}, s, err, api.ErrGraphForm)
	}
}

func TestMayNotBeComesFirst(t *testing.T) { // P14.2: whatever else is wrong, and if nothing is
	nodes := []int{api.MinInt, -1, 0, 1, 2, 3, 64, api.MaxInt}
	for _, s := range mayNotBe() {
		for _, a := range nodes {
			got, err := Start(s, a)
			wantError(t, "start", s, got, err, api.ErrTableForm)
			got, err = Stop(s, a)
			wantError(t, "stop", s, got, err, api.ErrTableForm)
			for _, b := range nodes {
				got, err = Deliver(s, a, b)
				wantError(t, "deliver", s, got, err, api.ErrTableForm)
			}
		}
	}
}

// wantNoNode is that a node isn't there, for all calls.
func wantNoNode(t *testing.T, s api.Scene, a int) {
	t.Helper()
	got, err := Start(s, a)
	wantError(t, "start", s, got, err, api.ErrTableNode)
	got, err = Stop(s, a)
	wantError(t, "stop", s, got, err, api.ErrTableNode)
	for _, b := range []int{api.MinInt, -1, 0, 1, 2, 3, 64, api.MaxInt, a} {
		got, err = Deliver(s, a, b)
		wantError(t, "deliver", s, got, err, api.ErrTableNode)
		got, err = Deliver(s, b, a)
		wantError(t, "deliver", s, got, err, api.ErrTableNode)
	}
}

func TestNodesThatAreNotThere(t *testing.T) { // P14.2
	for _, s := range mayBe() {
		for _, a := range []int{api.MinInt, -64, -1, len(s.Diners), len(s.Diners) + 1, 1000, api.MaxInt} {
			wantNoNode(t, s, a)
		}
	}
}

// plain is a scene behind what became of a node, put together by hand.
func plain(s api.Scene, a int, d api.Diner, err api.Errno) (api.Scene, api.Errno) {
	if err != api.OK {
		return api.Scene{}, err
	}
	d, out, err := dine.Fire(d)
	if err != api.OK {
		return api.Scene{}, err
	}
	other := copied(s)
	other.Diners[a] = d
	for _, m := range out {
		other.Mail = append(other.Mail, m)
	}
	return other, api.OK
}

// plainDeliver takes the first mail from the one to the other by hand.
func plainDeliver(s api.Scene, from, to int) (api.Scene, api.Errno) {
	left := api.Scene{Diners: s.Diners}
	var first *api.Mail
	for _, m := range s.Mail {
		if first == nil && m.From == from && m.To == to {
			first = &m
			continue
		}
		left.Mail = append(left.Mail, m)
	}
	if first == nil {
		return api.Scene{}, api.ErrTableMail
	}
	d, err := dine.Get(s.Diners[to], from, first.Msg)
	return plain(left, to, d, err)
}

// wantLike is that a call answers like a plain one.
func wantLike(t *testing.T, what string, s, got api.Scene, err api.Errno, like api.Scene, e api.Errno) {
	t.Helper()
	if e == api.OK {
		want(t, what, s, got, err, like)
	} else {
		wantError(t, what, s, got, err, e)
	}
}

// pairs are all pairs of nodes, or, of many nodes, some: with mail, and without.
func pairs(s api.Scene) [][2]int {
	if n := len(s.Diners); n > 8 {
		l := ways(s)
		return append(l[:min(len(l), 20)], [2]int{0, 1}, [2]int{n - 1, 0}, [2]int{5, 5})
	}
	var l [][2]int
	for a := range s.Diners {
		for b := range s.Diners {
			l = append(l, [2]int{a, b})
		}
	}
	return l
}

// wantPlain is that a scene is answered for like a plain one, at all its nodes.
func wantPlain(t *testing.T, s api.Scene) {
	t.Helper()
	for a, d := range s.Diners {
		started, wrong := dine.Start(d)
		like, e := plain(s, a, started, wrong)
		got, err := Start(s, a)
		wantLike(t, "start", s, got, err, like, e)
		stopped, wrong := dine.Stop(d)
		like, e = plain(s, a, stopped, wrong)
		got, err = Stop(s, a)
		wantLike(t, "stop", s, got, err, like, e)
	}
	for _, way := range pairs(s) {
		like, e := plainDeliver(s, way[0], way[1])
		got, err := Deliver(s, way[0], way[1])
		wantLike(t, "deliver", s, got, err, like, e)
	}
}

func TestAgainstPlainScenes(t *testing.T) { // P14.2
	for _, s := range mayBe() {
		wantPlain(t, s)
	}
}

func TestErrorsOfPhases(t *testing.T) { // P14.2: those of chapter 13
	for _, p := range phases {
		s := scene([]api.Diner{diner(0, api.Thinking, side(1, 1, "")), diner(1, p, side(0, 1, "")), diner(2, api.Eating)})
		if got, err := Start(s, 1); p != api.Thinking {
			wantError(t, "start", s, got, err, api.ErrDinePhase)
		}
		if got, err := Stop(s, 1); p != api.Eating {
			wantError(t, "stop", s, got, err, api.ErrDinePhase)
		}
	}
}

func TestErrorsOfDeliver(t *testing.T) { // P14.2: those of chapter 13, of the first mail, whatever comes behind it
	fork := api.Msg{Kind: api.MsgFork, Epoch: 1}
	for _, x := range []struct {
		m    api.Msg
		want api.Errno
	}{
		{api.Msg{Kind: api.MsgFork, Epoch: 0}, api.ErrDineSide},
		{api.Msg{Kind: api.MsgToken, Epoch: 2}, api.ErrDineSide},
		{api.Msg{}, api.ErrDineSide},
		{api.Msg{Kind: api.MsgBottle, Epoch: 1}, api.ErrDineKind},
		{api.Msg{Kind: api.MsgAsk, Epoch: 1}, api.ErrDineKind},
		{api.Msg{Kind: 0, Epoch: 1}, api.ErrDineKind},
		{api.Msg{Kind: api.MsgFork, Epoch: 1, Num: 1}, api.ErrDineKind},
		{api.Msg{Kind: api.MsgToken, Epoch: 1}, api.ErrDineHas},
	} {
		s := scene([]api.Diner{diner(0, api.Thinking, side(1, 1, "T")), diner(1, api.Thinking, side(0, 1, "FD")), diner(2, api.Thinking)},
			mail(0, 1, api.MsgToken), mail(1, 2, api.MsgFork), api.Mail{From: 1, To: 0, Msg: x.m}, api.Mail{From: 1, To: 0, Msg: fork})
		got, err := Deliver(s, 1, 0)
		wantError(t, "deliver", s, got, err, x.want)
		got, err = Deliver(s, 1, 2) // they have no edge
		wantError(t, "deliver", s, got, err, api.ErrDineSide)
		for _, pair := range [][2]int{{2, 1}, {2, 0}, {0, 2}, {0, 0}, {1, 1}, {2, 2}} {
			got, err = Deliver(s, pair[0], pair[1])
			wantError(t, "deliver", s, got, err, api.ErrTableMail)
		}
		slices.Reverse(s.Mail) // now the good one is the first one
		got, err = Deliver(s, 1, 0)
		want(t, "deliver", s, got, err, scene([]api.Diner{diner(0, api.Thinking, side(1, 1, "FT")), s.Diners[1], s.Diners[2]}, s.Mail[1:]...))
	}
}

func TestOrderOfMail(t *testing.T) { // P14.2: what goes out goes behind all mail, in order; what is left stays in order
	s := scene([]api.Diner{
		diner(0, api.Thinking, side(1, 1, "FDT"), side(2, 1, "T"), side(3, 1, "F")),
		diner(1, api.Thinking, side(0, 1, "")), diner(2, api.Thinking, side(0, 1, "FD")), diner(3, api.Eating, side(0, 1, "")),
	}, mail(3, 0, api.MsgToken), mail(1, 2, api.MsgColour), mail(3, 0, api.MsgAsk))
	got, err := Start(s, 0)
	behind := copied(s)
	behind.Diners[0] = diner(0, api.Hungry, side(1, 1, ""), side(2, 1, ""), side(3, 1, "F"))
	behind.Mail = append(behind.Mail, mail(0, 1, api.MsgFork), mail(0, 1, api.MsgToken), mail(0, 2, api.MsgToken))
	want(t, "start", s, got, err, behind)
	next, err := Deliver(got, 0, 2)
	behind.Diners[2] = diner(2, api.Thinking, side(0, 1, "T"))
	behind.Mail = []api.Mail{mail(3, 0, api.MsgToken), mail(1, 2, api.MsgColour), mail(3, 0, api.MsgAsk), mail(0, 1, api.MsgFork), mail(0, 1, api.MsgToken), mail(2, 0, api.MsgFork)}
	want(t, "deliver", got, next, err, behind)
	last, err := Deliver(next, 3, 0)
	behind.Diners[0].Sides[2].Token = true
	behind.Mail = behind.Mail[1:]
	want(t, "deliver", next, last, err, behind)
	s.Diners[0] = diner(0, api.Eating, side(1, 1, "FDT"), side(2, 1, "FD"), side(3, 1, "FDT"))
	got, err = Stop(s, 0)
	behind = copied(s)
	behind.Diners[0] = diner(0, api.Thinking, side(1, 1, "T"), side(2, 1, "FD"), side(3, 1, "T"))
	behind.Mail = append(behind.Mail, mail(0, 1, api.MsgFork), mail(0, 3, api.MsgFork))
	want(t, "stop", s, got, err, behind)
}

// plainCount is told side by side and mail by mail; no scene, and no edge, is asked whether it may be.
func plainCount(s api.Scene, e api.Edge, k api.MsgKind) int {
	var found []api.Side
	for v, d := range s.Diners {
		for _, at := range [][2]int{{e.A, e.B}, {e.B, e.A}} {
			i := slices.IndexFunc(d.Sides, func(x api.Side) bool { return x.Peer == at[1] })
			if v == at[0] && e.A != e.B && i >= 0 {
				found = append(found, d.Sides[i])
			}
		}
	}
	if len(found) != 2 || found[0].Epoch != found[1].Epoch {
		return 0
	}
	all := 0
	for _, x := range found {
		if x.Fork && k == api.MsgFork {
			all++
		}
		if x.Token && k == api.MsgToken {
			all++
		}
	}
	for _, m := range s.Mail {
		ways := map[[2]int]bool{{e.A, e.B}: true, {e.B, e.A}: true}
		if ways[[2]int{m.From, m.To}] && m.Msg.Kind == k && m.Msg.Epoch == found[0].Epoch && (k == api.MsgFork || k == api.MsgToken) {
			all++
		}
	}
	return all
}

func wantCount(t *testing.T, s api.Scene, a, b int, k api.MsgKind, want int) {
	t.Helper()
	if got := Count(s, api.Edge{A: a, B: b}, k); got != want {
		t.Errorf("%+v: count of %d at %d, %d: got %d, want %d", s, k, a, b, got, want)
	}
}

func TestCountAgainstPlainOne(t *testing.T) { // P14.3
	for _, s := range slices.Concat(mayBe(), mayNotBe()) {
		for a := -1; a <= min(len(s.Diners), 20); a++ {
			for b := -1; b <= min(len(s.Diners), 20); b++ {
				for k := api.MsgKind(0); k <= 4; k++ {
					wantCount(t, s, a, b, k, plainCount(s, api.Edge{A: a, B: b}, k))
				}
			}
		}
	}
}

func TestCount(t *testing.T) { // P14.3
	pair := func(x, y string, on ...api.Mail) api.Scene {
		return scene([]api.Diner{diner(0, api.Thinking, side(1, 1, x)), diner(1, api.Thinking, side(0, 1, y))}, on...)
	}
	for _, x := range []struct {
		s             api.Scene
		forks, tokens int
	}{
		{pair("", ""), 0, 0},
		{pair("F", ""), 1, 0},
		{pair("", "FD"), 1, 0},
		{pair("F", "FD"), 2, 0},
		{pair("T", "F"), 1, 1},
		{pair("FT", "FDT"), 2, 2},
		{pair("BA", "BA", mail(0, 1, api.MsgBottle), mail(1, 0, api.MsgAsk)), 0, 0},
		{pair("", "", mail(0, 1, api.MsgFork), mail(1, 0, api.MsgFork), mail(1, 0, api.MsgToken)), 2, 1},
		{pair("FT", "FT", mail(0, 1, api.MsgFork), mail(0, 1, api.MsgFork), mail(1, 0, api.MsgToken)), 4, 3},
		{pair("", "T", mail(0, 2, api.MsgFork), mail(2, 1, api.MsgFork), mail(0, 0, api.MsgFork), mail(1, 1, api.MsgToken), mail(-1, 1, api.MsgFork)), 0, 1},
		// of another epoch; any number is one of that kind
		{pair("F", "", api.Mail{From: 0, To: 1, Msg: api.Msg{Kind: api.MsgFork, Epoch: 2}}, api.Mail{From: 1, To: 0, Msg: api.Msg{Kind: api.MsgToken}}), 1, 0},
		{pair("", "", api.Mail{From: 0, To: 1, Msg: api.Msg{Kind: api.MsgFork, Epoch: 1, Num: 5}}), 1, 0},
	} {
		for _, at := range [][2]int{{0, 1}, {1, 0}} { // whichever is named first
			wantCount(t, x.s, at[0], at[1], api.MsgFork, x.forks)
			wantCount(t, x.s, at[0], at[1], api.MsgToken, x.tokens)
			for _, k := range []api.MsgKind{api.MinInt, -1, 0, api.MsgBottle, api.MsgAsk, api.MsgNew, api.MsgKnown, api.MsgClose, api.MsgClosed, api.MsgColour, 10, 257, 258, api.MaxInt} {
				wantCount(t, x.s, at[0], at[1], k, 0)
			}
		}
		for _, at := range [][2]int{{0, 0}, {1, 1}, {0, 2}, {2, 1}, {2, 3}, {-1, 0}, {1, -1}, {-1, -2}, {api.MinInt, 0}, {0, api.MaxInt}} {
			wantCount(t, x.s, at[0], at[1], api.MsgFork, 0)
			wantCount(t, x.s, at[0], at[1], api.MsgToken, 0)
		}
	}
	wantCount(t, api.Scene{}, 0, 1, api.MsgFork, 0)
}

func TestCountOfScenesThatMayNotBe(t *testing.T) { // P14.3: by places, whatever the IDs are; of the first sides; of one epoch
	on := []api.Mail{mail(0, 1, api.MsgFork), mail(7, 9, api.MsgFork), mail(1, 0, api.MsgToken)}
	named := scene([]api.Diner{diner(7, 5, side(1, 1, "FD")), diner(9, -1, side(0, 1, "T"))}, on...)
	wantCount(t, named, 0, 1, api.MsgFork, 2)
	wantCount(t, named, 1, 0, api.MsgToken, 2)
	wantCount(t, named, 7, 9, api.MsgFork, 0)
	twice := scene([]api.Diner{diner(0, 0, side(5, 1, "F"), side(1, 1, "F"), side(1, 2, "FT")), diner(1, 0, side(0, 1, ""), side(0, 1, "FT"))}, on...)
	wantCount(t, twice, 0, 1, api.MsgFork, 2)
	wantCount(t, twice, 0, 1, api.MsgToken, 1)
	other := scene([]api.Diner{diner(0, 0, side(1, 1, "FT")), diner(1, 0, side(0, 2, "FT"))}, on...)
	wantCount(t, other, 0, 1, api.MsgFork, 0)
	wantCount(t, other, 1, 0, api.MsgToken, 0)
	first := scene([]api.Diner{diner(0, 0, side(1, 2, "F"), side(1, 1, "F")), diner(1, 0, side(0, 1, ""))}, on...)
	wantCount(t, first, 0, 1, api.MsgFork, 0)
	half := scene([]api.Diner{diner(0, 0, side(1, 1, "FT")), diner(1, 0)}, on...)
	wantCount(t, half, 0, 1, api.MsgFork, 0)
	wantCount(t, half, 1, 0, api.MsgToken, 0)
	wide := scene([]api.Diner{diner(0, 0, side(1, -9, "FT")), diner(1, 0, side(0, -9, ""))}, api.Mail{From: 1, Msg: api.Msg{Kind: api.MsgFork, Epoch: -9}})
	wantCount(t, wide, 0, 1, api.MsgFork, 2)
	round := scene([]api.Diner{diner(0, 0, side(0, 1, "FT"))}, mail(0, 0, api.MsgFork)) // that is one side, not two
	wantCount(t, round, 0, 0, api.MsgFork, 0)
	wantCount(t, round, 0, 0, api.MsgToken, 0)
}

func TestPhases(t *testing.T) { // P14.1
	l := []api.Diner{{ID: 0}, {ID: 1, Phase: api.Eating}, {ID: 2, Phase: api.Hungry}, {ID: 3}, {ID: 4, Phase: api.Eating}}
	odd := []api.Diner{{ID: 9, Phase: 7}, {ID: 4, Phase: -1}, {ID: 9, Phase: 7}, {ID: -3, Phase: 7}, {ID: 4}} // whether they may be isn't asked for
	for _, x := range []struct {
		l    []api.Diner
		p    api.Phase
		want []int
	}{
		{l, api.Thinking, []int{0, 3}}, {l, api.Hungry, []int{2}}, {l, api.Eating, []int{1, 4}}, {l, 3, nil}, {l, -1, nil}, {nil, api.Thinking, nil},
		{odd, 7, []int{9, 9, -3}}, {odd, -1, []int{4}}, {odd, api.Thinking, []int{4}}, {odd, api.Hungry, nil}, {l[:3], api.MaxInt, nil},
	} {
		if got := Phases(scene(x.l, mail(0, 1, api.MsgFork)), x.p); !slices.Equal(got, x.want) {
			t.Errorf("%v: of phase %d: got %v, want %v", x.l, x.p, got, x.want)
		}
	}
}

func TestSame(t *testing.T) { // P14.1
	make2 := func() api.Scene {
		x := api.Side{Peer: 3, Epoch: 4, State: api.SideClosing, Fork: true, Dirty: true}
		return scene([]api.Diner{diner(1, api.Eating, side(0, 1, "TA"), x), diner(2, api.Thinking, side(7, 1, "FB"))},
			mail(0, 1, api.MsgFork), api.Mail{From: 5, To: 1, Msg: api.Msg{Kind: api.MsgColour, Epoch: 3, Num: 2}})
	}
	wantSame := func(a, b api.Scene, want bool) {
		t.Helper()
		if Same(a, b) != want || Same(b, a) != want {
			t.Errorf("%+v, %+v: same %v", a, b, !want)
		}
	}
	wantSame(make2(), make2(), true)
	wantSame(api.Scene{}, api.Scene{Diners: []api.Diner{}, Mail: []api.Mail{}}, true)
	wantSame(scene(make([]api.Diner, 1)), scene([]api.Diner{{Sides: []api.Side{}}}), true)
	wantSame(api.Scene{}, scene(make([]api.Diner, 1)), false)
	wantSame(api.Scene{}, scene(nil, api.Mail{}), false)
	for at := range 2 {
		for _, change := range []func(d *api.Diner, x *api.Side, m *api.Mail){
			func(d *api.Diner, _ *api.Side, _ *api.Mail) { d.ID++ },
			func(d *api.Diner, _ *api.Side, _ *api.Mail) { d.Phase++ },
			func(d *api.Diner, _ *api.Side, _ *api.Mail) { d.Sides = d.Sides[1:] },
			func(d *api.Diner, _ *api.Side, _ *api.Mail) { d.Sides = append(d.Sides, api.Side{}) },
			func(_ *api.Diner, x *api.Side, _ *api.Mail) { x.Peer++ },
			func(_ *api.Diner, x *api.Side, _ *api.Mail) { x.Epoch++ },
			func(_ *api.Diner, x *api.Side, _ *api.Mail) { x.State++ },
			func(_ *api.Diner, x *api.Side, _ *api.Mail) { x.Fork = !x.Fork },
			func(_ *api.Diner, x *api.Side, _ *api.Mail) { x.Dirty = !x.Dirty },
			func(_ *api.Diner, x *api.Side, _ *api.Mail) { x.Token = !x.Token },
			func(_ *api.Diner, x *api.Side, _ *api.Mail) { x.Bottle = !x.Bottle },
			func(_ *api.Diner, x *api.Side, _ *api.Mail) { x.Ask = !x.Ask },
			func(_ *api.Diner, _ *api.Side, m *api.Mail) { m.From++ },
			func(_ *api.Diner, _ *api.Side, m *api.Mail) { m.To++ },
			func(_ *api.Diner, _ *api.Side, m *api.Mail) { m.Msg.Kind++ },
			func(_ *api.Diner, _ *api.Side, m *api.Mail) { m.Msg.Epoch++ },
			func(_ *api.Diner, _ *api.Side, m *api.Mail) { m.Msg.Num++ },
		} {
			other := make2()
			d := &other.Diners[at]
			change(d, &d.Sides[len(d.Sides)-1], &other.Mail[at])
			wantSame(make2(), other, false)
		}
	}
	for _, change := range []func(s *api.Scene){
		func(s *api.Scene) { slices.Reverse(s.Mail) },
		func(s *api.Scene) { slices.Reverse(s.Diners) },
		func(s *api.Scene) { s.Mail = s.Mail[1:] },
		func(s *api.Scene) { s.Mail = s.Mail[:1] },
		func(s *api.Scene) { s.Mail = nil },
		func(s *api.Scene) { s.Mail = append(s.Mail, s.Mail[1]) },
		func(s *api.Scene) { s.Diners = s.Diners[:1] },
		func(s *api.Scene) { s.Diners = append(s.Diners, api.Diner{}) },
	} {
		other := make2()
		change(&other)
		wantSame(make2(), other, false)
	}
	for _, s := range mayNotBe() { // whether they may be isn't asked for
		wantSame(s, copied(s), true)
	}
}

// ways are all pairs of nodes from the one of which something is on its way to the other one, in the order of their first mail.
func ways(s api.Scene) [][2]int {
	var l [][2]int
	for _, m := range s.Mail {
		if way := [2]int{m.From, m.To}; !slices.Contains(l, way) {
			l = append(l, way)
		}
	}
	return l
}

// nexts are all scenes that may come behind one.
func nexts(t *testing.T, s api.Scene) []api.Scene {
	t.Helper()
	var l []api.Scene
	keep := func(other api.Scene, err api.Errno) {
		if err != api.OK {
			t.Fatalf("behind %+v: error %d", s, err)
		}
		l = append(l, other)
	}
	for _, a := range Phases(s, api.Thinking) {
		keep(Start(s, a))
	}
	for _, a := range Phases(s, api.Eating) {
		keep(Stop(s, a))
	}
	for _, way := range ways(s) {
		keep(Deliver(s, way[0], way[1]))
	}
	return l
}

// key is a text of a scene of epoch 1, the same one for two whose mail is in the same order on each way.
func key(s api.Scene) string {
	var b strings.Builder
	for _, d := range s.Diners {
		b.WriteByte('0' + byte(d.Phase))
		for _, x := range d.Sides {
			bits := byte('a')
			for i, is := range []bool{x.Fork, x.Dirty, x.Token} {
				if is {
					bits += 1 << i
				}
			}
			b.WriteByte(bits)
		}
	}
	for a := range s.Diners {
		for c := range s.Diners {
			for _, m := range s.Mail {
				if m.From == a && m.To == c {
					b.WriteString(string([]byte{'A' + byte(a), 'A' + byte(c), '0' + byte(m.Msg.Kind)}))
				}
			}
		}
	}
	return b.String()
}

// reached are all scenes that come from New on, whatever is done, in whatever order.
func reached(t *testing.T, g api.Graph) []api.Scene {
	t.Helper()
	first, err := New(g)
	if err != api.OK {
		t.Fatal(g, err)
	}
	seen := map[string]bool{key(first): true}
	all := []api.Scene{first}
	for i := 0; i < len(all); i++ {
		for _, s := range nexts(t, all[i]) {
			if k := key(s); !seen[k] {
				seen[k] = true
				all = append(all, s)
			}
		}
	}
	return all
}

// wantWhole is what always holds, from New on.
func wantWhole(t *testing.T, g api.Graph, s api.Scene) {
	t.Helper()
	if err := Check(s); err != api.OK {
		t.Fatalf("%v: error %d: %+v", g, err, s)
	}
	for _, e := range g.Edges {
		for _, k := range []api.MsgKind{api.MsgFork, api.MsgToken} {
			if Count(s, e, k) != 1 || plainCount(s, e, k) != 1 {
				t.Fatalf("%v: not one of %d: %+v", e, k, s)
			}
		}
		if s.Diners[e.A].Phase == api.Eating && s.Diners[e.B].Phase == api.Eating {
			t.Fatalf("%v: two neighbours eat: %+v", e, s)
		}
	}
	arcs := place.Arcs(s)
	if len(arcs) != len(g.Edges) {
		t.Fatalf("%v: %d arcs: %+v", g, len(arcs), s)
	}
	if _, straight := dag.Order(g.N, arcs); !straight {
		t.Fatalf("%v: they lead round: %v", g, arcs)
	}
}

// flowing is a scene behind all mail: which comes next is told by pick, of the ways that there are.
func flowing(t *testing.T, s api.Scene, pick func(n int) int) api.Scene {
	t.Helper()
	for l := ways(s); len(l) > 0; l = ways(s) {
		way := l[pick(len(l))]
		next, err := Deliver(s, way[0], way[1])
		if err != api.OK {
			t.Fatalf("deliver %v of %+v: error %d", way, s, err)
		}
		s = next
	}
	return s
}

// allOut is a scene in which each of these nodes did that.
func allOut(t *testing.T, s api.Scene, nodes []int, act func(s api.Scene, a int) (api.Scene, api.Errno)) api.Scene {
	t.Helper()
	for _, a := range nodes {
		next, err := act(s, a)
		if err != api.OK {
			t.Fatalf("%d of %+v: error %d", a, s, err)
		}
		s = next
	}
	return s
}

// wantFed is that all who are hungry eat, when all mail comes, and all who eat stop, as often as there are nodes; also if all the others are hungry again each time.
func wantFed(t *testing.T, s api.Scene, again bool, pick func(n int) int) {
	t.Helper()
	waits, first := Phases(s, api.Hungry), s
	for range s.Diners {
		if again {
			s = allOut(t, s, Phases(s, api.Thinking), Start)
		}
		s = flowing(t, s, pick)
		eat := Phases(s, api.Eating)
		waits = slices.DeleteFunc(waits, func(a int) bool { return slices.Contains(eat, a) })
		s = allOut(t, s, eat, Stop)
	}
	if len(waits) > 0 {
		t.Fatalf("%v don't eat, from %+v on", waits, first)
	}
}

func TestWhatFollowsInSmallScenes(t *testing.T) { // P14.4: in all scenes of all graphs of up to three nodes, and of some of four
	oldest := func(int) int { return 0 }
	newest := func(n int) int { return n - 1 }
	for _, g := range append(allUpTo(3), of(4, 0, 1, 0, 2, 0, 3), of(4, 0, 1, 0, 2, 1, 3), of(4, 0, 1, 0, 3, 1, 2, 2, 3)) {
		for _, s := range reached(t, g) {
			wantWhole(t, g, s)
			for _, again := range []bool{false, true} {
				wantFed(t, s, again, oldest)
				wantFed(t, s, again, newest)
			}
		}
	}
}

// walk is a row of acts here and there, from New on; told is asked behind each one.
func walk(t *testing.T, g api.Graph, c *chance, acts int, told func(s api.Scene)) {
	t.Helper()
	s, _ := New(g)
	for range acts {
		next, err := s, api.OK
		a := c.of(g.N)
		switch l := ways(s); {
		case len(l) > 0 && c.of(3) > 0:
			way := l[c.of(len(l))]
			next, err = Deliver(s, way[0], way[1])
		case s.Diners[a].Phase == api.Thinking:
			next, err = Start(s, a)
		case s.Diners[a].Phase == api.Eating:
			next, err = Stop(s, a)
		}
		if err != api.OK {
			t.Fatalf("behind %+v: error %d", s, err)
		}
		s = next
		told(s)
	}
}

func TestWhatFollowsInLongRows(t *testing.T) { // P14.4: here and there
	c := chance(3)
	ring, path := of(8, 0, 1, 0, 7, 1, 2, 2, 3, 3, 4, 4, 5, 5, 6, 6, 7), of(8, 0, 1, 1, 2, 2, 3, 3, 4, 4, 5, 5, 6, 6, 7)
	for _, g := range append(allOf(4), full(7, 21), ring, path) {
		walk(t, g, &c, 200, func(s api.Scene) {
			wantWhole(t, g, s)
			wantFed(t, s, c.of(2) > 0, c.of)
		})
	}
	for _, g := range many() {
		turn := 0
		walk(t, g, &c, 1500, func(s api.Scene) {
			if turn++; turn%50 == 0 {
				wantWhole(t, g, s)
			}
			if turn == 1500 {
				wantFed(t, s, false, c.of)
			}
		})
	}
}

// answers are the scenes that all calls answer.
func answers(s api.Scene) []api.Scene {
	var l []api.Scene
	keep := func(other api.Scene, err api.Errno) {
		if err == api.OK {
			l = append(l, other)
		}
	}
	for a := range min(len(s.Diners), 6) {
		keep(Start(s, a))
		keep(Stop(s, a))
		for b := range min(len(s.Diners), 6) {
			keep(Deliver(s, a, b))
		}
	}
	return l
}

// roomy is a row with spare room, and the whole of its memory.
func roomy[T any](row []T, spare T) ([]T, []T) {
	whole := append(slices.Clone(row), spare)
	return whole[:len(row)], whole
}

func TestGraphHandedInStays(t *testing.T) { // the rules that hold everywhere
	for _, g := range append(allOf(4), full(64, 400), of(2, 1, 0)) {
		edges, all := roomy(g.Edges, api.Edge{A: 7, B: 8})
		New(api.Graph{N: g.N, Edges: edges})
		if !slices.Equal(edges, g.Edges) || all[len(edges)] != (api.Edge{A: 7, B: 8}) {
			t.Errorf("%v is changed: %v", g, all)
		}
	}
}

func TestHandedInStays(t *testing.T) { // the rules that hold everywhere
	spare := side(70, 8, "FTB")
	for _, s := range slices.Concat(odds(), mayNotBe()) {
		given := copied(s)
		var wholes [][]api.Side
		for v := range given.Diners {
			var whole []api.Side
			given.Diners[v].Sides, whole = roomy(given.Diners[v].Sides, spare)
			wholes = append(wholes, whole)
		}
		var all []api.Diner
		given.Diners, all = roomy(given.Diners, api.Diner{ID: 50})
		var allMail []api.Mail
		given.Mail, allMail = roomy(given.Mail, mail(50, 51, api.MsgAsk))
		answers(given)
		Check(given)
		Same(given, given)
		Phases(given, api.Thinking)
		Count(given, api.Edge{A: 0, B: 1}, api.MsgFork)
		spared := all[len(s.Diners)].ID == 50 && allMail[len(s.Mail)] == mail(50, 51, api.MsgAsk)
		for v, whole := range wholes {
			spared = spared && whole[len(s.Diners[v].Sides)] == spare
		}
		if !same(given, s) || !spared {
			t.Errorf("%+v is changed: %+v, %v, %v", s, given, wholes, allMail)
		}
	}
}

// spoil makes something else of all of an answer, its spare room too.
func spoil[T any](row []T, other T) {
	row = row[:cap(row)]
	for i := range row {
		row[i] = other
	}
}

func TestAnswersAreNewMemory(t *testing.T) { // the rules that hold everywhere
	for _, s := range odds() {
		given := copied(s)
		got, again := answers(given), answers(copied(s))
		for i, answer := range got { // each one is spoilt when those ahead are spoilt already
			for v := range answer.Diners { // and so are the lists of one answer
				if !slices.Equal(answer.Diners[v].Sides, again[i].Diners[v].Sides) {
					t.Errorf("%+v: the sides of %d are shared", s, v)
				}
				spoil(answer.Diners[v].Sides, side(70, 8, "F"))
			}
			if !slices.Equal(answer.Mail, again[i].Mail) {
				t.Errorf("%+v: mail is shared", s)
			}
			spoil(answer.Mail, api.Mail{From: -50})
			spoil(answer.Diners, api.Diner{ID: -50})
		}
		if !same(given, s) {
			t.Errorf("%+v: shared by an answer", s)
		}
		spoil(Phases(given, api.Thinking), -50)
		if !same(given, s) {
			t.Errorf("%+v: shared by its phases", s)
		}
	}
}

func TestLongRows(t *testing.T) { // P1: every call ends, at rows of many too
	const much = 1000000
	diners := []api.Diner{diner(0, api.Eating, side(1, 1, "FDT")), diner(1, api.Hungry, side(0, 1, ""))}
	on := make([]api.Mail, much)
	for i := range on {
		on[i] = mail(0, 1, api.MsgFork)
	}
	on[much-1] = mail(1, 0, api.MsgToken)
	s := scene(diners, on...)
	wantCount(t, s, 0, 1, api.MsgFork, much)
	got, err := Stop(s, 0)
	if err != api.OK || len(got.Mail) != much+1 || got.Mail[much] != mail(0, 1, api.MsgFork) || Check(got) != api.OK || Same(got, s) {
		t.Error("stop with much mail:", err, len(got.Mail))
	}
	if got, err := Deliver(s, 1, 0); err != api.ErrDineHas || !same(got, api.Scene{}) {
		t.Error("deliver with much mail:", err, len(got.Mail))
	}
	on[much-1].To = 2
	wantError(t, "start", api.Scene{}, api.Scene{}, Check(s), api.ErrTableForm)
	alone := make([]api.Diner, much)
	for v := range alone {
		alone[v].ID = v
	}
	crowd := scene(alone)
	if got, err := Start(crowd, 0); err != api.ErrTableForm || !same(got, api.Scene{}) || len(Phases(crowd, api.Thinking)) != much {
		t.Error("many nodes:", err)
	}
	wide := scene([]api.Diner{{Sides: make([]api.Side, much)}})
	if Check(wide) != api.ErrTableForm || !Same(wide, wide) {
		t.Error("check of many sides")
	}
}
