package drink

import (
	"slices"
	"strings"
	"testing"

	"narthex/api"
	"narthex/dine"
)

var (
	phases  = []api.Phase{api.Thinking, api.Hungry, api.Eating}
	thirsts = []api.Thirst{api.Tranquil, api.Thirsty, api.Drinking}
	states  = []api.SideState{api.SideLive, api.SideOpening, api.SideClosing, api.SideLeaving}
)

// lies is all that may lie on a side: Fork, Dirty, Token, Bottle, Ask, by their first letters.
func lies() []string {
	var l []string
	for _, fork := range []string{"", "T", "F", "FT", "FD", "FDT"} {
		for _, bottle := range []string{"", "B", "A", "BA"} {
			l = append(l, fork+bottle)
		}
	}
	return l
}

// put is a side with just that.
func put(x api.Side, what string) api.Side {
	x.Fork, x.Dirty, x.Token = strings.Contains(what, "F"), strings.Contains(what, "D"), strings.Contains(what, "T")
	x.Bottle, x.Ask = strings.Contains(what, "B"), strings.Contains(what, "A")
	return x
}

// shown is what lies on a side.
func shown(x api.Side) string {
	s := ""
	for _, y := range []struct {
		lies bool
		name string
	}{{x.Fork, "F"}, {x.Dirty, "D"}, {x.Token, "T"}, {x.Bottle, "B"}, {x.Ask, "A"}} {
		if y.lies {
			s += y.name
		}
	}
	return s
}

func side(peer, epoch int, what string) api.Side {
	return put(api.Side{Peer: peer, Epoch: epoch}, what)
}

// in is a side in another state.
func in(state api.SideState, x api.Side) api.Side {
	x.State = state
	return x
}

// drinker is one of the id 3.
func drinker(p api.Phase, t api.Thirst, need []int, l ...api.Side) api.Drinker {
	return api.Drinker{Diner: api.Diner{ID: 3, Phase: p, Sides: l}, Thirst: t, Need: need}
}

// tranquil is one who thinks, and needs nothing.
func tranquil(l ...api.Side) api.Drinker { return drinker(api.Thinking, api.Tranquil, nil, l...) }

// sent is a message that goes out of node 3.
func sent(k api.MsgKind, to, epoch int) api.Mail {
	return api.Mail{From: 3, To: to, Msg: api.Msg{Kind: k, Epoch: epoch}}
}

// sidesOf are so many sides alike, to the peers from 10 on.
func sidesOf(many int, what string) []api.Side {
	var l []api.Side
	for i := range many {
		l = append(l, side(10+i, i, what))
	}
	return l
}

// peersFrom are so many peers, from one on.
func peersFrom(first, many int) []int {
	var l []int
	for i := range many {
		l = append(l, first+i)
	}
	return l
}

// same is told field by field.
func same(a, b api.Drinker) bool {
	if a.ID != b.ID || a.Phase != b.Phase || a.Thirst != b.Thirst || len(a.Sides) != len(b.Sides) || len(a.Need) != len(b.Need) {
		return false
	}
	for i, x := range a.Sides {
		if x != b.Sides[i] {
			return false
		}
	}
	for i, x := range a.Need {
		if x != b.Need[i] {
			return false
		}
	}
	return true
}

func copied(d api.Drinker) api.Drinker {
	d.Sides, d.Need = slices.Clone(d.Sides), slices.Clone(d.Need)
	return d
}

// want is what a call that has no error answers.
func want(t *testing.T, what string, d, got api.Drinker, err api.Errno, want api.Drinker) {
	t.Helper()
	if err != api.OK || !same(got, want) {
		t.Errorf("%s of %+v: got %+v, error %d, want %+v", what, d, got, err, want)
	}
}

// wantError is what a call that has one answers.
func wantError(t *testing.T, what string, d, got api.Drinker, err, want api.Errno) {
	t.Helper()
	if err != want || !same(got, api.Drinker{}) {
		t.Errorf("%s of %+v: got %+v, error %d, want error %d", what, d, got, err, want)
	}
}

func wantFire(t *testing.T, d, behind api.Drinker, out ...api.Mail) {
	t.Helper()
	got, mail, err := Fire(d)
	want(t, "fire", d, got, err, behind)
	if !slices.Equal(mail, out) {
		t.Errorf("fire of %+v: %v goes out, want %v", d, mail, out)
	}
}

// chance tells numbers here and there, always the same ones.
type chance struct{ at uint64 }

func (c *chance) below(n int) int {
	c.at = c.at*6364136223846793005 + 1442695040888963407
	return int(c.at >> 33 % uint64(n))
}

func pick[T any](c *chance, l []T) T { return l[c.below(len(l))] }

// bare are sides on which nothing lies, to peers below the id 3 and above it, their epochs at the edges too.
func bare() []api.Side {
	return []api.Side{{Peer: 0, Epoch: 0}, {Peer: 2, Epoch: 7}, {Peer: 4, Epoch: api.MaxEpoch}, {Peer: api.MaxInt, Epoch: 1}}
}

// thirstOf are all thirsts, each with all that may be needed of some peers.
func thirstOf(d api.Drinker, peers []int) []api.Drinker {
	l := []api.Drinker{d}
	for set := range 1 << len(peers) {
		var need []int
		for i, peer := range peers {
			if set>>i&1 == 1 {
				need = append(need, peer)
			}
		}
		for _, t := range thirsts[1:] {
			other := copied(d)
			other.Thirst, other.Need = t, need
			l = append(l, copied(other))
		}
	}
	return l
}

// small are the drinkers of no more than two live sides, of all phases and thirsts, with all that may lie there.
func small() []api.Drinker {
	var l []api.Drinker
	for _, p := range phases {
		l = append(l, thirstOf(drinker(p, api.Tranquil, nil), nil)...)
		for _, one := range lies() {
			x := put(bare()[1], one)
			l = append(l, thirstOf(drinker(p, api.Tranquil, nil, x), []int{2})...)
			for _, other := range lies() {
				l = append(l, thirstOf(drinker(p, api.Tranquil, nil, x, put(bare()[2], other)), []int{2, 4})...)
			}
		}
	}
	return l
}

// odd is a drinker here and there, of up to so many sides, in all states.
func odd(c *chance, most int) api.Drinker {
	d := drinker(pick(c, phases), pick(c, thirsts), nil)
	all := lies()
	peer := 0
	for range c.below(most + 1) {
		peer += 1 + c.below(3)
		if peer == d.ID {
			peer++
		}
		state := api.SideLive
		if c.below(4) == 0 {
			state = pick(c, states)
		}
		d.Sides = append(d.Sides, in(state, side(peer, c.below(api.MaxEpoch+1), pick(c, all))))
		if d.Thirst != api.Tranquil && c.below(2) == 0 {
			d.Need = append(d.Need, peer)
		}
	}
	return d
}

// samples are such drinkers; some of them have nearly all forks, or all bottles, so that more comes to pass.
func samples(many, most int) []api.Drinker {
	c := &chance{at: 15}
	var l []api.Drinker
	for range many {
		d := odd(c, most)
		forks, bottles := c.below(3) == 0, c.below(3) == 0
		for i := range d.Sides {
			if c.below(9) > 0 {
				d.Sides[i].Fork = d.Sides[i].Fork || forks
				d.Sides[i].Bottle = d.Sides[i].Bottle || bottles
			}
		}
		l = append(l, d)
	}
	return l
}

func TestExample(t *testing.T) { // P15.1, P15.2, P15.3
	d := tranquil(side(1, 5, "TB"))
	o, err := Open(d, []int{1})
	want(t, "open", d, o, err, drinker(api.Thinking, api.Thirsty, []int{1}, side(1, 5, "TB")))
	wantFire(t, o, drinker(api.Hungry, api.Drinking, []int{1}, side(1, 5, "B")), sent(api.MsgToken, 1, 5))
	f, _, _ := Fire(o)
	a, err := Get(f, 1, api.Msg{Kind: api.MsgAsk, Epoch: 5})
	want(t, "get", f, a, err, drinker(api.Hungry, api.Drinking, []int{1}, side(1, 5, "BA")))
	wantFire(t, a, a) // it waits
	c, err := Close(a)
	want(t, "close", a, c, err, drinker(api.Hungry, api.Tranquil, nil, side(1, 5, "BA")))
	wantFire(t, c, drinker(api.Hungry, api.Tranquil, nil, side(1, 5, "A")), sent(api.MsgBottle, 1, 5))
	c, _, _ = Fire(c)
	k, err := Get(c, 1, api.Msg{Kind: api.MsgFork, Epoch: 5})
	want(t, "get", c, k, err, drinker(api.Hungry, api.Tranquil, nil, side(1, 5, "FA")))
	wantFire(t, k, drinker(api.Thinking, api.Tranquil, nil, side(1, 5, "FDA"))) // it eats, for nothing
}

// mayBe are drinkers at the edges of what may be.
func mayBe() []api.Drinker {
	l := []api.Drinker{
		{}, {Need: []int{}}, {Thirst: api.Thirsty}, {Thirst: api.Drinking}, {Thirst: api.Thirsty, Need: []int{}}, {Diner: api.Diner{ID: api.MaxInt}},
		{Diner: api.Diner{Sides: []api.Side{{Peer: api.MaxInt}}}, Thirst: api.Thirsty, Need: []int{api.MaxInt}},
		{Diner: api.Diner{ID: 1, Sides: []api.Side{{}}}, Thirst: api.Drinking, Need: []int{0}},
	}
	for _, t := range thirsts[1:] {
		for _, state := range states {
			l = append(l, drinker(api.Hungry, t, []int{1}, in(state, side(1, 9, "F"))))
		}
		for _, need := range [][]int{{}, {0}, {2}, {4}, {api.MaxInt}, {0, 2}, {0, 4}, {2, api.MaxInt}, {0, 2, 4}, {2, 4, api.MaxInt}, {0, 2, 4, api.MaxInt}} {
			l = append(l, drinker(api.Thinking, t, need, bare()...))
		}
		for _, what := range []string{"", "TA", "FDTBA", "FB"} {
			l = append(l, drinker(api.Hungry, t, peersFrom(10, 63), sidesOf(63, what)...), drinker(api.Eating, t, []int{72}, sidesOf(63, what)...))
		}
	}
	l = append(l, drinker(api.Eating, api.Tranquil, nil, sidesOf(63, "FDTBA")...))
	return append(append(l, small()...), samples(300, 6)...)
}

// spoilt are the faults that a diner may have; but some of those only that dine's own tests know.
func spoilt() []func(d *api.Diner) {
	return []func(d *api.Diner){
		func(d *api.Diner) { d.ID = -1 },
		func(d *api.Diner) { d.ID = d.Sides[0].Peer },
		func(d *api.Diner) { d.Phase = -1 },
		func(d *api.Diner) { d.Phase = 3 },
		func(d *api.Diner) { slices.Reverse(d.Sides) },
		func(d *api.Diner) { d.Sides[1] = d.Sides[0] },
		func(d *api.Diner) { d.Sides[0].Peer = -1 },
		func(d *api.Diner) { d.Sides[3].Epoch = 65536 },
		func(d *api.Diner) { d.Sides[3].Epoch = -1 },
		func(d *api.Diner) { d.Sides[2].State = 4 },
		func(d *api.Diner) { d.Sides[2].State = -1 },
		func(d *api.Diner) { d.Sides[1].Fork, d.Sides[1].Dirty = false, true },
		func(d *api.Diner) { d.Sides = append(d.Sides, sidesOf(64, "")...) },
	}
}

// mayNotBe are drinkers each of which has one fault.
func mayNotBe() []api.Drinker {
	var l []api.Drinker
	for _, t := range []api.Thirst{-1, 3, api.MinInt, api.MaxInt} {
		l = append(l, api.Drinker{Thirst: t}, drinker(api.Thinking, t, nil, bare()...), drinker(api.Hungry, t, []int{2}, bare()...))
	}
	for _, p := range phases { // one who is tranquil needs nothing
		l = append(l, drinker(p, api.Tranquil, []int{0}, bare()...), drinker(p, api.Tranquil, []int{0, 2, 4, api.MaxInt}, bare()...))
	}
	for _, t := range thirsts[1:] {
		for _, need := range [][]int{ // no set; or not of peers
			{2, 0}, {2, 2}, {0, 0}, {0, 2, 2}, {0, 0, 4}, {0, 4, 2}, {4, 2, 0}, {0, api.MaxInt, 4}, {api.MaxInt, api.MaxInt},
			{1}, {3}, {5}, {-1}, {api.MinInt}, {api.MaxInt - 1}, {0, 1}, {1, 2}, {0, 3, 4}, {0, 2, 3}, {-1, 0, 2}, {2, 5}, {0, 2, 4, 7, api.MaxInt},
		} {
			for _, p := range phases {
				l = append(l, drinker(p, t, need, bare()...))
			}
		}
		l = append(l, api.Drinker{Thirst: t, Need: []int{0}}, api.Drinker{Thirst: t, Need: []int{1}})
		l = append(l, drinker(api.Hungry, t, peersFrom(10, 64), sidesOf(63, "F")...), drinker(api.Hungry, t, peersFrom(9, 63), sidesOf(63, "F")...))
	}
	for _, fault := range spoilt() {
		for _, t := range thirsts {
			d := drinker(api.Thinking, t, nil, bare()...)
			fault(&d.Diner)
			l = append(l, d)
		}
	}
	return l
}

func TestCheck(t *testing.T) { // P15.1
	for _, d := range mayBe() {
		if err := Check(d); err != api.OK {
			t.Errorf("check of %+v: error %d", d, err)
		}
	}
	for _, d := range mayNotBe() {
		if err := Check(d); err != api.ErrDrinkForm {
			t.Errorf("check of %+v: error %d", d, err)
		}
	}
}

func TestMayNotBeComesFirst(t *testing.T) { // P15.1: whatever else is wrong, and if nothing is
	for _, d := range mayNotBe() {
		for _, need := range [][]int{nil, {0}, {2, 0}, {-1}, {1}, {2, 99}, {10}} {
			got, err := Open(d, need)
			wantError(t, "open", d, got, err, api.ErrDrinkForm)
		}
		got, err := Close(d)
		wantError(t, "close", d, got, err, api.ErrDrinkForm)
		got, mail, err := Fire(d)
		wantError(t, "fire", d, got, err, api.ErrDrinkForm)
		if len(mail) != 0 {
			t.Errorf("fire of %+v: %v goes out", d, mail)
		}
		for _, peer := range []int{-1, 0, 2, 3, 4, 10, 72} {
			for _, m := range []api.Msg{{}, {Kind: api.MsgFork}, {Kind: api.MsgToken, Epoch: 7}, {Kind: api.MsgBottle}, {Kind: api.MsgAsk, Epoch: 7}, {Kind: api.MsgAsk, Epoch: 62}, {Kind: api.MsgNew}, {Kind: api.MsgBottle, Num: 1}} {
				got, err := Get(d, peer, m)
				wantError(t, "get", d, got, err, api.ErrDrinkForm)
			}
		}
	}
}

// mixed are sides in all states; the first two and the last one are live.
func mixed() []api.Side {
	return []api.Side{side(0, 1, "F"), side(2, 7, "TB"), in(api.SideOpening, side(4, 2, "FDB")), in(api.SideClosing, side(5, 3, "A")), in(api.SideLeaving, side(6, 4, "BA")), side(9, 9, "TA")}
}

func TestOpen(t *testing.T) { // P15.1
	for _, p := range phases {
		d := drinker(p, api.Tranquil, nil, mixed()...)
		for _, x := range []struct{ need, set []int }{
			{nil, nil}, {[]int{}, nil}, {[]int{0}, []int{0}}, {[]int{2}, []int{2}}, {[]int{9}, []int{9}}, {[]int{9, 2, 0}, []int{0, 2, 9}},
			{[]int{2, 2}, []int{2}}, {[]int{9, 0, 9, 0, 0}, []int{0, 9}}, {[]int{0, 2, 9}, []int{0, 2, 9}},
		} {
			got, err := Open(d, x.need)
			want(t, "open", d, got, err, drinker(p, api.Thirsty, x.set, mixed()...))
		}
		for _, need := range [][]int{
			{1}, {3}, {4}, {5}, {6}, {7}, {-1}, {10}, {api.MinInt}, {api.MaxInt},
			{0, 1}, {1, 0}, {4, 2}, {2, 4}, {0, 2, 5}, {6, 9}, {0, 2, 9, 4}, {0, 2, 3, 9}, {-1, 0}, {9, 9, 6},
		} {
			got, err := Open(d, need)
			wantError(t, "open", d, got, err, api.ErrDrinkNeed)
		}
		for _, thirst := range thirsts[1:] { // ahead of what is needed
			for _, need := range [][]int{nil, {0}, {0, 2}, {1}, {4}, {-1}} {
				d := drinker(p, thirst, []int{2, 4}, mixed()...)
				got, err := Open(d, need)
				wantError(t, "open", d, got, err, api.ErrDrinkState)
			}
		}
	}
	all := tranquil(sidesOf(63, "TA")...)
	backwards := peersFrom(10, 63)
	slices.Reverse(backwards)
	got, err := Open(all, backwards)
	want(t, "open", all, got, err, drinker(api.Thinking, api.Thirsty, peersFrom(10, 63), sidesOf(63, "TA")...))
	got, err = Open(api.Drinker{}, []int{0})
	wantError(t, "open", api.Drinker{}, got, err, api.ErrDrinkNeed)
	got, err = Open(api.Drinker{}, nil)
	want(t, "open", api.Drinker{}, got, err, api.Drinker{Thirst: api.Thirsty})
}

func TestOpenAndClose(t *testing.T) { // P15.1
	for _, d := range mayBe() {
		opened, err := Open(d, nil)
		if d.Thirst == api.Tranquil {
			want(t, "open", d, opened, err, api.Drinker{Diner: d.Diner, Thirst: api.Thirsty})
		} else {
			wantError(t, "open", d, opened, err, api.ErrDrinkState)
		}
		closed, err := Close(d)
		if d.Thirst != api.Tranquil {
			want(t, "close", d, closed, err, api.Drinker{Diner: d.Diner})
		} else {
			wantError(t, "close", d, closed, err, api.ErrDrinkState)
		}
	}
}

// letter is what a message brings.
var letter = map[api.MsgKind]string{api.MsgFork: "F", api.MsgToken: "T", api.MsgBottle: "B", api.MsgAsk: "A"}

func TestGet(t *testing.T) { // P15.2
	for at, x := range mixed() {
		for _, what := range lies() {
			for _, d := range thirstOf(drinker(api.Hungry, api.Tranquil, nil, mixed()...), slices.Compact([]int{0, x.Peer})) {
				d.Sides[at] = put(x, what)
				for k, brings := range letter {
					got, err := Get(d, x.Peer, api.Msg{Kind: k, Epoch: x.Epoch})
					if strings.Contains(what, brings) {
						wantError(t, "get", d, got, err, api.ErrDineHas)
						continue
					}
					other := copied(d)
					other.Sides[at] = put(x, what+brings)
					want(t, "get", d, got, err, other)
				}
			}
		}
	}
	// of a drinker with as many sides as may be, at each one
	for at := range 63 {
		for _, k := range []api.MsgKind{api.MsgBottle, api.MsgAsk} {
			d := drinker(api.Hungry, api.Thirsty, peersFrom(10, 63), sidesOf(63, "FDT")...)
			got, err := Get(d, 10+at, api.Msg{Kind: k, Epoch: at})
			other := copied(d)
			other.Sides[at] = side(10+at, at, "FDT"+letter[k])
			want(t, "get", d, got, err, other)
		}
	}
}

func TestErrorsOfGet(t *testing.T) { // P15.2: the side, then the kind, then what lies there
	sides := map[[2]int]bool{{0, 4}: true, {2, 5}: true, {4, 0}: true, {9, api.MaxEpoch}: true}
	peers := []int{api.MinInt, -1, 0, 1, 2, 3, 4, 5, 8, 9, 10, api.MaxInt}
	epochs := []int{api.MinInt, -1, 0, 1, 4, 5, 6, 65534, 65535, 65536, api.MaxInt}
	kinds := []api.MsgKind{api.MinInt, -1, 0, 1, 2, 3, 4, 5, 6, 7, 8, 9, 10, 259, 260, api.MaxInt}
	nums := []int{api.MinInt, -1, 0, 1, 65535, api.MaxInt}
	for _, what := range []string{"", "B", "A", "F", "TBA", "FDTBA"} {
		d := drinker(api.Hungry, api.Thirsty, []int{2}, side(0, 4, what), side(2, 5, what), side(4, 0, what), side(9, api.MaxEpoch, what))
		for _, peer := range peers {
			for _, epoch := range epochs {
				for _, k := range kinds {
					for _, num := range nums {
						got, err := Get(d, peer, api.Msg{Kind: k, Epoch: epoch, Num: num})
						brings, known := letter[k]
						switch {
						case !sides[[2]int{peer, epoch}]:
							wantError(t, "get", d, got, err, api.ErrDineSide)
						case !known || num != 0:
							wantError(t, "get", d, got, err, api.ErrDineKind)
						case strings.Contains(what, brings):
							wantError(t, "get", d, got, err, api.ErrDineHas)
						case err != api.OK || same(got, d):
							t.Errorf("get of %+v, from %d, %d@%d: %+v, error %d", d, peer, k, epoch, got, err)
						}
					}
				}
			}
		}
	}
	got, err := Get(api.Drinker{}, 0, api.Msg{Kind: api.MsgBottle})
	wantError(t, "get", api.Drinker{}, got, err, api.ErrDineSide)
}

// plain is a drinker, told in words.
type plain struct {
	phase, thirst string
	opening       bool
	needs         []bool
	sides         []string
}

func plainOf(d api.Drinker) plain {
	p := plain{
		phase:  []string{"thinking", "hungry", "eating"}[d.Phase],
		thirst: []string{"tranquil", "thirsty", "drinking"}[d.Thirst],
	}
	for _, x := range d.Sides {
		p.opening = p.opening || x.State == api.SideOpening
		p.needs = append(p.needs, slices.Contains(d.Need, x.Peer))
		p.sides = append(p.sides, shown(x))
	}
	return p
}

// note is that something goes out at a side.
type note struct {
	side int
	what string
}

func without(s, letters string) string {
	for _, x := range letters {
		s = strings.ReplaceAll(s, string(x), "")
	}
	return s
}

// forks lets, by a table, forks and tokens go.
func (p *plain) forks() []note {
	goes := map[string]string{"thinking FDT": "FD", "hungry FDT": "FDT", "hungry T": "T"} // what is gone then; the dirt goes with the fork
	var out []note
	for i, s := range p.sides {
		gone := goes[p.phase+" "+without(s, "BA")]
		p.sides[i] = without(s, gone)
		for _, x := range without(gone, "D") {
			out = append(out, note{i, string(x)})
		}
	}
	all := !slices.ContainsFunc(p.sides, func(s string) bool { return !strings.Contains(s, "F") })
	if p.phase == "hungry" && all {
		p.phase = "eating"
		for i, s := range p.sides {
			p.sides[i] = "FD" + without(s, "FD")
		}
	}
	return out
}

// bottles lets, by a table, bottles and asks go. Of those whose bottle isn't needed, all give it.
func (p *plain) bottles() []note {
	goes := map[string]string{
		"tranquil BA": "B", "tranquil FBA": "B",
		"thirsty A": "A", "thirsty FA": "A", "thirsty BA": "BA",
	}
	var out []note
	for i, s := range p.sides {
		thirst := p.thirst
		if !p.needs[i] {
			thirst = "tranquil"
		}
		gone := goes[thirst+" "+without(s, "DT")]
		p.sides[i] = without(s, gone)
		for _, x := range gone {
			out = append(out, note{i, string(x)})
		}
	}
	all := true
	for i, s := range p.sides {
		all = all && (!p.needs[i] || strings.Contains(s, "B"))
	}
	if p.thirst == "thirsty" && all {
		p.thirst = "drinking"
	}
	return out
}

// fire goes round more often than is ever needed.
func (p *plain) fire() []note {
	var out []note
	for range 10 {
		if p.thirst == "thirsty" && p.phase == "thinking" {
			p.phase = "hungry"
		}
		if p.thirst != "thirsty" && p.phase == "eating" && !p.opening {
			p.phase = "thinking"
		}
		out = append(out, p.forks()...)
		out = append(out, p.bottles()...)
	}
	return out
}

// wantPlain is that Fire does what a plain drinker does.
func wantPlain(t *testing.T, d api.Drinker) {
	t.Helper()
	p := plainOf(d)
	var out []api.Mail
	for _, n := range p.fire() {
		x := d.Sides[n.side]
		k := map[string]api.MsgKind{"F": api.MsgFork, "T": api.MsgToken, "B": api.MsgBottle, "A": api.MsgAsk}[n.what]
		out = append(out, api.Mail{From: d.ID, To: x.Peer, Msg: api.Msg{Kind: k, Epoch: x.Epoch}})
	}
	behind := copied(d)
	behind.Phase = map[string]api.Phase{"thinking": api.Thinking, "hungry": api.Hungry, "eating": api.Eating}[p.phase]
	behind.Thirst = map[string]api.Thirst{"tranquil": api.Tranquil, "thirsty": api.Thirsty, "drinking": api.Drinking}[p.thirst]
	for i, s := range p.sides {
		behind.Sides[i] = put(d.Sides[i], s)
	}
	wantFire(t, d, behind, out...)
}

func TestFireAgainstPlain(t *testing.T) { // P15.3
	for _, d := range small() {
		wantPlain(t, d)
	}
	for _, d := range samples(30000, 6) {
		wantPlain(t, d)
	}
	for _, d := range samples(300, 40) {
		wantPlain(t, d)
	}
}

func TestFire(t *testing.T) { // P15.3
	// nothing is needed: it drinks, and eats if it has all forks, and thinks again at once
	wantFire(t, api.Drinker{Thirst: api.Thirsty}, api.Drinker{Thirst: api.Drinking})
	wantFire(t, api.Drinker{}, api.Drinker{})
	wantFire(t, drinker(api.Thinking, api.Thirsty, nil, side(1, 4, "FTA")), drinker(api.Thinking, api.Drinking, nil, side(1, 4, "TA")), sent(api.MsgFork, 1, 4))
	wantFire(t, drinker(api.Thinking, api.Thirsty, nil, side(1, 4, "TA")), drinker(api.Hungry, api.Drinking, nil, side(1, 4, "A")), sent(api.MsgToken, 1, 4))
	// one that isn't needed is given, with the fork there too; one that is needed isn't, with the fork there
	wantFire(t, drinker(api.Eating, api.Thirsty, []int{2}, side(1, 4, "FDBA"), side(2, 4, "FDBA"), side(4, 4, "FDA")),
		drinker(api.Thinking, api.Drinking, []int{2}, side(1, 4, "FDA"), side(2, 4, "FDBA"), side(4, 4, "FDA")), sent(api.MsgBottle, 1, 4))
	// without the fork it is given, though all are here, and asked for again
	wantFire(t, drinker(api.Hungry, api.Thirsty, []int{1, 2}, side(1, 4, "BA"), side(2, 5, "BA")),
		drinker(api.Hungry, api.Thirsty, []int{1, 2}, side(1, 4, ""), side(2, 5, "")),
		sent(api.MsgBottle, 1, 4), sent(api.MsgAsk, 1, 4), sent(api.MsgBottle, 2, 5), sent(api.MsgAsk, 2, 5))
	// even that of the last side, ahead of whether it drinks
	wantFire(t, drinker(api.Hungry, api.Thirsty, []int{1, 2}, side(1, 4, "B"), side(2, 5, "BA")),
		drinker(api.Hungry, api.Thirsty, []int{1, 2}, side(1, 4, "B"), side(2, 5, "")), sent(api.MsgBottle, 2, 5), sent(api.MsgAsk, 2, 5))
	// who drinks keeps what it needs, without forks too
	wantFire(t, drinker(api.Hungry, api.Drinking, []int{1}, side(1, 4, "BA"), side(2, 5, "BA")),
		drinker(api.Hungry, api.Drinking, []int{1}, side(1, 4, "BA"), side(2, 5, "A")), sent(api.MsgBottle, 2, 5))
	// all of forks first, then all of bottles; of a side the ask behind the bottle
	wantFire(t, drinker(api.Thinking, api.Thirsty, []int{1, 4}, side(1, 6, "FDTBA"), side(2, 7, "FDTBA"), side(4, 8, "TA")),
		drinker(api.Hungry, api.Thirsty, []int{1, 4}, side(1, 6, ""), side(2, 7, "A"), side(4, 8, "")),
		sent(api.MsgFork, 1, 6), sent(api.MsgToken, 1, 6), sent(api.MsgFork, 2, 7), sent(api.MsgToken, 2, 7), sent(api.MsgToken, 4, 8),
		sent(api.MsgBottle, 1, 6), sent(api.MsgAsk, 1, 6), sent(api.MsgBottle, 2, 7), sent(api.MsgAsk, 4, 8))
	// who eats goes on eating while it is thirsty, and the forks stay
	wantFire(t, drinker(api.Eating, api.Thirsty, []int{1}, side(1, 4, "FDTA")), drinker(api.Eating, api.Thirsty, []int{1}, side(1, 4, "FDT")), sent(api.MsgAsk, 1, 4))
	// behind a round in which it ate and drank, the forks go in the next one, behind the bottle
	wantFire(t, drinker(api.Thinking, api.Thirsty, []int{1}, side(1, 4, "FTB"), side(2, 5, "FTBA")),
		drinker(api.Thinking, api.Drinking, []int{1}, side(1, 4, "TB"), side(2, 5, "TA")),
		sent(api.MsgBottle, 2, 5), sent(api.MsgFork, 1, 4), sent(api.MsgFork, 2, 5))
	// it goes out from its own id
	d := api.Drinker{Diner: api.Diner{ID: 8, Sides: []api.Side{side(api.MaxInt, api.MaxEpoch, "BA")}}}
	wantFire(t, d, api.Drinker{Diner: api.Diner{ID: 8, Sides: []api.Side{side(api.MaxInt, api.MaxEpoch, "A")}}},
		api.Mail{From: 8, To: api.MaxInt, Msg: api.Msg{Kind: api.MsgBottle, Epoch: api.MaxEpoch}})
}

func TestFireWhileOneIsOpening(t *testing.T) { // P15.3
	for _, state := range states {
		for _, thirst := range []api.Thirst{api.Tranquil, api.Drinking} {
			d := drinker(api.Eating, thirst, nil, side(1, 4, "FDT"), in(state, side(2, 5, "FDB")))
			if state == api.SideOpening {
				wantFire(t, d, d)
				continue
			}
			wantFire(t, d, drinker(api.Thinking, thirst, nil, side(1, 4, "T"), in(state, side(2, 5, "FDB"))), sent(api.MsgFork, 1, 4))
		}
	}
}

func TestFireOfManySides(t *testing.T) { // P15.3
	const many = 63
	all := peersFrom(10, many)
	wantFire(t, drinker(api.Hungry, api.Thirsty, all, sidesOf(many, "FBA")...), drinker(api.Thinking, api.Drinking, all, sidesOf(many, "FDBA")...))
	var bottles, both []api.Mail
	for i := range many {
		bottles = append(bottles, sent(api.MsgBottle, 10+i, i))
		both = append(both, sent(api.MsgBottle, 10+i, i), sent(api.MsgAsk, 10+i, i))
	}
	wantFire(t, tranquil(sidesOf(many, "BA")...), tranquil(sidesOf(many, "A")...), bottles...)
	wantFire(t, drinker(api.Hungry, api.Thirsty, all, sidesOf(many, "BA")...), drinker(api.Hungry, api.Thirsty, all, sidesOf(many, "")...), both...)
	wantFire(t, drinker(api.Hungry, api.Drinking, all, sidesOf(many, "BA")...), drinker(api.Hungry, api.Drinking, all, sidesOf(many, "BA")...))
	for at := range many { // one bottle that isn't there is enough
		d := drinker(api.Hungry, api.Thirsty, all, sidesOf(many, "B")...)
		d.Sides[at].Bottle = false
		wantFire(t, d, copied(d))
		d.Sides[at].Ask = true
		behind := copied(d)
		behind.Sides[at].Ask = false
		wantFire(t, d, behind, sent(api.MsgAsk, 10+at, at))
	}
}

// undone is whether something is to be done, told of each thing alone.
func undone(d api.Drinker) bool {
	_, mail, _ := dine.Fire(d.Diner)
	opening, hasAll, forks := false, true, true
	for _, x := range d.Sides {
		needs := slices.Contains(d.Need, x.Peer)
		opening, hasAll, forks = opening || x.State == api.SideOpening, hasAll && (x.Bottle || !needs), forks && x.Fork
		gives := x.Bottle && x.Ask && !(needs && (d.Thirst == api.Drinking || d.Thirst == api.Thirsty && x.Fork))
		asks := d.Thirst == api.Thirsty && needs && x.Ask && !x.Bottle
		if gives || asks {
			return true
		}
	}
	thirsty := d.Thirst == api.Thirsty
	return len(mail) > 0 || thirsty && d.Phase == api.Thinking || thirsty && hasAll || d.Phase == api.Hungry && forks ||
		!thirsty && d.Phase == api.Eating && !opening
}

func TestNothingMoreIsToBeDone(t *testing.T) { // P15.4
	for _, d := range slices.Concat(mayBe(), samples(10000, 8)) {
		once, _, err := Fire(d)
		if err != api.OK || Check(once) != api.OK || undone(once) {
			t.Fatalf("fire of %+v: %+v, error %d", d, once, err)
		}
		wantFire(t, once, once)
	}
}

// next is all that may become of a drinker by one call.
func next(d api.Drinker) []api.Drinker {
	var l []api.Drinker
	keep := func(other api.Drinker, err api.Errno) {
		if err == api.OK {
			l = append(l, other)
		}
	}
	keep(Open(d, nil))
	keep(Close(d))
	for _, x := range d.Sides {
		keep(Open(d, []int{x.Peer}))
		for _, k := range []api.MsgKind{api.MsgFork, api.MsgToken, api.MsgBottle, api.MsgAsk} {
			keep(Get(d, x.Peer, api.Msg{Kind: k, Epoch: x.Epoch}))
		}
	}
	if len(d.Sides) == 2 {
		keep(Open(d, []int{d.Sides[0].Peer, d.Sides[1].Peer}))
	}
	other, _, err := Fire(d)
	keep(other, err)
	return l
}

// lacking is whether one drinks that hasn't what it needs.
func lacking(d api.Drinker) bool {
	lacks := func(x api.Side) bool { return slices.Contains(d.Need, x.Peer) && !x.Bottle }
	return d.Thirst == api.Drinking && slices.ContainsFunc(d.Sides, lacks)
}

func TestWhoDrinksHasWhatItNeeds(t *testing.T) { // P15.4: by each single call, so by all of them; and it is kept till one is tranquil
	for _, d := range small() {
		if lacking(d) { // none that is tranquil at first comes there
			continue
		}
		for _, other := range next(d) {
			if err := Check(other); err != api.OK || lacking(other) {
				t.Errorf("from %+v to %+v: error %d", d, other, err)
			}
			if d.Thirst == api.Drinking && other.Thirst == api.Drinking && !slices.Equal(d.Need, other.Need) || d.Thirst == api.Drinking && other.Thirst == api.Thirsty {
				t.Errorf("from %+v to %+v: drinking isn't kept", d, other)
			}
		}
	}
}

func TestSame(t *testing.T) { // P15.1
	make2 := func() api.Drinker {
		x := api.Side{Peer: 4, Epoch: 4, State: api.SideClosing, Fork: true, Dirty: true}
		return drinker(api.Hungry, api.Thirsty, []int{1, 4}, side(1, 2, "FTBA"), x)
	}
	wantSame := func(a, b api.Drinker, want bool) {
		t.Helper()
		if Same(a, b) != want || Same(b, a) != want {
			t.Errorf("%+v, %+v: same %v", a, b, !want)
		}
	}
	wantSame(make2(), make2(), true)
	wantSame(api.Drinker{}, api.Drinker{Diner: api.Diner{Sides: []api.Side{}}, Need: []int{}}, true)
	wantSame(api.Drinker{}, api.Drinker{Diner: api.Diner{Sides: []api.Side{{}}}}, false)
	wantSame(api.Drinker{}, api.Drinker{Need: []int{0}}, false)
	for _, change := range []func(d *api.Drinker){
		func(d *api.Drinker) { d.ID++ },
		func(d *api.Drinker) { d.Phase++ },
		func(d *api.Drinker) { d.Thirst++ },
		func(d *api.Drinker) { d.Thirst = api.Tranquil },
		func(d *api.Drinker) { d.Sides = nil },
		func(d *api.Drinker) { d.Sides = d.Sides[:1] },
		func(d *api.Drinker) { d.Sides = append(d.Sides, api.Side{}) },
		func(d *api.Drinker) { slices.Reverse(d.Sides) },
		func(d *api.Drinker) { d.Need = nil },
		func(d *api.Drinker) { d.Need = d.Need[:1] },
		func(d *api.Drinker) { d.Need = d.Need[1:] },
		func(d *api.Drinker) { d.Need = append(d.Need, 0) },
		func(d *api.Drinker) { slices.Reverse(d.Need) },
		func(d *api.Drinker) { d.Need[1]++ },
	} {
		other := make2()
		change(&other)
		wantSame(make2(), other, false)
	}
	for at := range 2 {
		for _, change := range []func(x *api.Side){
			func(x *api.Side) { x.Peer++ },
			func(x *api.Side) { x.Epoch++ },
			func(x *api.Side) { x.State++ },
			func(x *api.Side) { x.Fork = !x.Fork },
			func(x *api.Side) { x.Dirty = !x.Dirty },
			func(x *api.Side) { x.Token = !x.Token },
			func(x *api.Side) { x.Bottle = !x.Bottle },
			func(x *api.Side) { x.Ask = !x.Ask },
		} {
			other := make2()
			change(&other.Sides[at])
			wantSame(make2(), other, false)
		}
	}
	for _, d := range mayNotBe() { // whether they may be isn't asked for
		wantSame(d, copied(d), true)
	}
}

// answers are the drinkers that all calls answer, and the mail, if any.
func answers(d api.Drinker) ([]api.Drinker, []api.Mail) {
	_, mail, _ := Fire(d)
	return next(d), mail
}

func TestHandedInStays(t *testing.T) { // the rules that hold everywhere
	spare := side(70, 8, "FTB")
	for _, d := range slices.Concat(mayBe(), mayNotBe()) {
		sides, need := append(slices.Clone(d.Sides), spare), append(slices.Clone(d.Need), 70)
		given := d
		given.Sides, given.Need = sides[:len(d.Sides)], need[:len(d.Need)]
		answers(given)
		Check(given)
		Same(given, given)
		if !same(given, d) || sides[len(d.Sides)] != spare || need[len(d.Need)] != 70 {
			t.Errorf("%+v is changed: %+v, %v", d, sides, need)
		}
	}
	row := []int{9, 2, 9, 0, 77}
	if _, err := Open(tranquil(mixed()...), row[:4]); err != api.OK || !slices.Equal(row, []int{9, 2, 9, 0, 77}) {
		t.Errorf("%v is changed", row)
	}
}

// spoil overwrites all of a drinker, its spare room too.
func spoil(d api.Drinker) {
	for i := range d.Sides[:cap(d.Sides)] {
		d.Sides[:cap(d.Sides)][i] = api.Side{Peer: -50}
	}
	for i := range d.Need[:cap(d.Need)] {
		d.Need[:cap(d.Need)][i] = -50
	}
}

func TestAnswersAreNewMemory(t *testing.T) { // the rules that hold everywhere
	for _, d := range slices.Concat(small(), samples(500, 5)) {
		given := copied(d)
		got, mail := answers(given)
		again, mailAgain := answers(copied(d))
		for i := range got { // each one is spoilt when those ahead are spoilt already
			if !same(got[i], again[i]) {
				t.Errorf("%+v: answers share memory", d)
			}
			spoil(got[i])
		}
		if !same(given, d) {
			t.Errorf("%+v: shared by an answer", d)
		}
		for i := range mail {
			mail[i] = api.Mail{}
		}
		if _, third := answers(given); !slices.Equal(third, mailAgain) {
			t.Errorf("%+v: mail is shared", d)
		}
	}
	need := []int{0, 2}
	got, _ := Open(tranquil(mixed()...), need)
	spoil(got)
	if !slices.Equal(need, []int{0, 2}) {
		t.Errorf("%v: shared by an answer", need)
	}
}

func TestLongRows(t *testing.T) { // P1: every call ends, at rows of many too
	const much = 1000000
	d := drinker(api.Hungry, api.Thirsty, peersFrom(10, much), sidesOf(much, "FDTBA")...)
	if Check(d) != api.ErrDrinkForm || !Same(d, d) {
		t.Error("check of many sides")
	}
	if l, mail := answers(drinker(api.Hungry, api.Thirsty, peersFrom(10, much), side(1, 1, "F"))); len(l) != 0 || len(mail) != 0 {
		t.Error("answers of much that is needed")
	}
	twos := slices.Repeat([]int{2}, much)
	got, err := Open(tranquil(mixed()...), twos)
	want(t, "open", tranquil(mixed()...), got, err, drinker(api.Thinking, api.Thirsty, []int{2}, mixed()...))
	got, err = Open(tranquil(mixed()...), append(twos, 3))
	wantError(t, "open", tranquil(mixed()...), got, err, api.ErrDrinkNeed)
}
