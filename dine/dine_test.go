package dine

import (
	"slices"
	"strings"
	"testing"

	"narthex/api"
)

// lies is all that may lie on a side of forks and tokens: Fork, Dirty, Token.
var lies = []string{"", "T", "F", "FT", "FD", "FDT"}

var phases = []api.Phase{api.Thinking, api.Hungry, api.Eating}

// put is a side with just that of Fork, Dirty and Token.
func put(x api.Side, what string) api.Side {
	x.Fork, x.Dirty, x.Token = strings.Contains(what, "F"), strings.Contains(what, "D"), strings.Contains(what, "T")
	return x
}

// side is a side with these: Fork, Dirty, Token, Bottle, Ask, by their first letters.
func side(peer, epoch int, what string) api.Side {
	x := put(api.Side{Peer: peer, Epoch: epoch}, what)
	x.Bottle, x.Ask = strings.Contains(what, "B"), strings.Contains(what, "A")
	return x
}

func diner(p api.Phase, l ...api.Side) api.Diner { return api.Diner{ID: 3, Phase: p, Sides: l} }

// bare are sides without fork and token, to peers below the id 3 and above it: of all states, some with bottles and asks, their epochs at the edges too.
func bare() []api.Side {
	return []api.Side{
		{Peer: 0, Epoch: 0, State: api.SideLeaving, Ask: true},
		{Peer: 2, Epoch: 7, State: api.SideLive, Bottle: true},
		{Peer: 4, Epoch: api.MaxEpoch, State: api.SideOpening, Bottle: true, Ask: true},
		{Peer: api.MaxInt, Epoch: 1, State: api.SideClosing},
	}
}

// small are the diners of that id 3, of all phases, with so many sides, and all that may lie there.
func small(many int) []api.Diner {
	rows := [][]api.Side{nil}
	for _, x := range bare()[:many] {
		var longer [][]api.Side
		for _, row := range rows {
			for _, what := range lies {
				longer = append(longer, append(slices.Clone(row), put(x, what)))
			}
		}
		rows = longer
	}
	var all []api.Diner
	for _, p := range phases {
		for _, row := range rows {
			all = append(all, diner(p, slices.Clone(row)...))
		}
	}
	return all
}

// allSmall are those with up to four sides.
func allSmall() []api.Diner {
	var all []api.Diner
	for many := range 5 {
		all = append(all, small(many)...)
	}
	return all
}

// sidesOf are so many sides alike, to the peers from 10 on.
func sidesOf(many int, what string) []api.Side {
	var l []api.Side
	for i := range many {
		l = append(l, side(10+i, i, what))
	}
	return l
}

// same is told field by field.
func same(a, b api.Diner) bool {
	if a.ID != b.ID || a.Phase != b.Phase || len(a.Sides) != len(b.Sides) {
		return false
	}
	for i, x := range a.Sides {
		y := b.Sides[i]
		if x.Peer != y.Peer || x.Epoch != y.Epoch || x.State != y.State || x.Fork != y.Fork || x.Dirty != y.Dirty ||
			x.Token != y.Token || x.Bottle != y.Bottle || x.Ask != y.Ask {
			return false
		}
	}
	return true
}

func copied(d api.Diner) api.Diner {
	d.Sides = slices.Clone(d.Sides)
	return d
}

// want is what a call that has no error answers.
func want(t *testing.T, what string, d, got api.Diner, err api.Errno, want api.Diner) {
	t.Helper()
	if err != api.OK || !same(got, want) {
		t.Errorf("%s of %+v: got %+v, error %d, want %+v", what, d, got, err, want)
	}
}

// wantError is what a call that has one answers.
func wantError(t *testing.T, what string, d, got api.Diner, err, want api.Errno) {
	t.Helper()
	if err != want || !same(got, api.Diner{}) {
		t.Errorf("%s of %+v: got %+v, error %d, want error %d", what, d, got, err, want)
	}
}

func wantFire(t *testing.T, d, behind api.Diner, out ...api.Mail) {
	t.Helper()
	got, mail, err := Fire(d)
	want(t, "fire", d, got, err, behind)
	if !slices.Equal(mail, out) {
		t.Errorf("fire of %+v: %v goes out, want %v", d, mail, out)
	}
}

// sent is a message that goes out of node 3.
func sent(k api.MsgKind, to, epoch int) api.Mail {
	return api.Mail{From: 3, To: to, Msg: api.Msg{Kind: k, Epoch: epoch}}
}

func TestExample(t *testing.T) { // P13.1, P13.2, P13.3
	d := diner(api.Thinking, side(1, 5, "T"))
	h, err := Start(d)
	want(t, "start", d, h, err, diner(api.Hungry, side(1, 5, "T")))
	wantFire(t, h, diner(api.Hungry, side(1, 5, "")), sent(api.MsgToken, 1, 5))
	h, _, _ = Fire(h)
	f, err := Get(h, 1, api.Msg{Kind: api.MsgFork, Epoch: 5})
	want(t, "get", h, f, err, diner(api.Hungry, side(1, 5, "F")))
	wantFire(t, f, diner(api.Eating, side(1, 5, "FD")))
	e, _, _ := Fire(f)
	k, err := Get(e, 1, api.Msg{Kind: api.MsgToken, Epoch: 5})
	want(t, "get", e, k, err, diner(api.Eating, side(1, 5, "FDT")))
	wantFire(t, k, k)
	s, err := Stop(k)
	want(t, "stop", k, s, err, diner(api.Thinking, side(1, 5, "FDT")))
	wantFire(t, s, diner(api.Thinking, side(1, 5, "T")), sent(api.MsgFork, 1, 5))
}

// mayBe are diners at the edges of what may be.
func mayBe() []api.Diner {
	l := []api.Diner{
		{}, {ID: api.MaxInt}, {Sides: []api.Side{}},
		{Sides: []api.Side{{Peer: 1}}}, {Sides: []api.Side{{Peer: api.MaxInt}}}, {ID: api.MaxInt, Sides: []api.Side{{Peer: 0}, {Peer: api.MaxInt - 1}}},
		{ID: 1, Sides: []api.Side{{Peer: 0}}}, {ID: 1, Sides: []api.Side{{Peer: 0}, {Peer: 2}}}, {ID: 64, Sides: []api.Side{{Peer: 63}, {Peer: 65}, {Peer: 1000}}},
		{ID: 5, Sides: sidesOf(63, "FDTBA")}, {ID: 5, Sides: sidesOf(63, "")},
	}
	for _, epoch := range []int{0, 1, 65534, 65535} {
		l = append(l, diner(api.Thinking, side(1, epoch, "F")), diner(api.Eating, side(1, 9, ""), side(4, epoch, "FD"), side(5, 9, "")))
	}
	for _, state := range []api.SideState{api.SideLive, api.SideOpening, api.SideClosing, api.SideLeaving} {
		l = append(l, diner(api.Hungry, api.Side{Peer: 1, State: state}), diner(api.Thinking, side(1, 9, ""), api.Side{Peer: 4, State: state, Fork: true}))
	}
	return append(l, allSmall()...)
}

// spoilt are the faults that a side may have.
func spoilt() []func(x *api.Side) {
	return []func(x *api.Side){
		func(x *api.Side) { x.Peer = -1 },
		func(x *api.Side) { x.Peer = api.MinInt },
		func(x *api.Side) { x.Epoch = -1 },
		func(x *api.Side) { x.Epoch = 65536 },
		func(x *api.Side) { x.Epoch = api.MinInt },
		func(x *api.Side) { x.Epoch = api.MaxInt },
		func(x *api.Side) { x.State = -1 },
		func(x *api.Side) { x.State = 4 },
		func(x *api.Side) { x.State = api.MinInt },
		func(x *api.Side) { x.State = api.MaxInt },
		func(x *api.Side) { x.Fork, x.Dirty = false, true },
		func(x *api.Side) { x.Fork, x.Dirty, x.Token = false, true, true },
	}
}

// mayNotBe are diners each of which has one fault.
func mayNotBe() []api.Diner {
	to := func(id int, peers ...int) api.Diner {
		d := api.Diner{ID: id}
		for _, peer := range peers {
			d.Sides = append(d.Sides, side(peer, 1, "F"))
		}
		return d
	}
	l := []api.Diner{
		{ID: -1}, {ID: api.MinInt}, {ID: -1, Sides: []api.Side{{Peer: 0}}},
		{Phase: -1}, {Phase: 3}, {Phase: api.MinInt}, {Phase: api.MaxInt},
		{ID: 5, Sides: sidesOf(64, "F")}, {ID: 5, Sides: sidesOf(65, "F")}, {ID: 100, Sides: make([]api.Side, 64)},
		to(0, 0), to(3, 3), to(3, 0, 3), to(3, 3, 4), to(3, 2, 3, 4), to(api.MaxInt, api.MaxInt),
		to(3, 1, 1), to(3, 0, 0), to(3, 2, 1), to(3, 1, 0), to(3, 0, 2, 1), to(3, 0, 4, 4), to(3, 5, 0, 6), to(3, 0, 2, 0), to(3, api.MaxInt, 0),
		to(3, 7, 6, 5), to(3, -1), to(3, -1, 0), to(3, -2, -1), to(3, 1, -1), to(3, 1, 2, -1), to(3, 1, api.MinInt),
	}
	for _, fault := range spoilt() {
		for many := 1; many <= 4; many++ {
			for at := range many {
				for _, p := range phases {
					d := diner(p, bare()[:many]...)
					fault(&d.Sides[at])
					l = append(l, d)
				}
			}
		}
		for _, at := range []int{0, 31, 62} {
			d := diner(api.Hungry, sidesOf(63, "FD")...)
			fault(&d.Sides[at])
			l = append(l, d)
		}
	}
	return l
}

func TestCheck(t *testing.T) { // P13.1
	for _, d := range mayBe() {
		if err := Check(d); err != api.OK {
			t.Errorf("check of %+v: error %d", d, err)
		}
	}
	for _, d := range mayNotBe() {
		if err := Check(d); err != api.ErrDineForm {
			t.Errorf("check of %+v: error %d", d, err)
		}
	}
}

func TestMayNotBeComesFirst(t *testing.T) { // P13.1: whatever else is wrong, and if nothing is
	for _, d := range mayNotBe() {
		got, err := Start(d)
		wantError(t, "start", d, got, err, api.ErrDineForm)
		got, err = Stop(d)
		wantError(t, "stop", d, got, err, api.ErrDineForm)
		got, mail, err := Fire(d)
		wantError(t, "fire", d, got, err, api.ErrDineForm)
		if len(mail) != 0 {
			t.Errorf("fire of %+v: %v goes out", d, mail)
		}
		for _, peer := range []int{-1, 0, 3, 4, 10, 72} {
			for _, m := range []api.Msg{{}, {Kind: api.MsgFork}, {Kind: api.MsgToken, Epoch: 1}, {Kind: api.MsgToken, Epoch: 62}, {Kind: api.MsgAsk, Epoch: 1}, {Kind: api.MsgFork, Num: 1}} {
				got, err := Get(d, peer, m)
				wantError(t, "get", d, got, err, api.ErrDineForm)
			}
		}
	}
}

func TestStartAndStop(t *testing.T) { // P13.1
	for _, d := range mayBe() {
		started, err := Start(d)
		if d.Phase == api.Thinking {
			want(t, "start", d, started, err, api.Diner{ID: d.ID, Phase: api.Hungry, Sides: d.Sides})
		} else {
			wantError(t, "start", d, started, err, api.ErrDinePhase)
		}
		stopped, err := Stop(d)
		if d.Phase == api.Eating {
			want(t, "stop", d, stopped, err, api.Diner{ID: d.ID, Phase: api.Thinking, Sides: d.Sides})
		} else {
			wantError(t, "stop", d, stopped, err, api.ErrDinePhase)
		}
	}
}

// gotten is what a side with these has, when a fork or a token comes; false: that lies there.
func gotten(what string, k api.MsgKind) (string, bool) {
	behind, fits := map[api.MsgKind]map[string]string{
		api.MsgFork:  {"": "F", "T": "FT"},
		api.MsgToken: {"": "T", "F": "FT", "FD": "FDT"},
	}[k][what]
	return behind, fits
}

func TestGet(t *testing.T) { // P13.2
	for at, x := range bare()[:3] {
		for _, what := range lies {
			for _, p := range phases {
				for _, k := range []api.MsgKind{api.MsgFork, api.MsgToken} {
					d := diner(p, bare()...)
					d.Sides[at] = put(x, what)
					got, err := Get(d, x.Peer, api.Msg{Kind: k, Epoch: x.Epoch})
					behind, fits := gotten(what, k)
					if !fits {
						wantError(t, "get", d, got, err, api.ErrDineHas)
						continue
					}
					other := copied(d)
					other.Sides[at] = put(x, behind)
					want(t, "get", d, got, err, other)
				}
			}
		}
	}
	// of a diner with as many sides as may be, at each one
	for at := range 63 {
		d := diner(api.Hungry, sidesOf(63, "FDBA")...)
		got, err := Get(d, 10+at, api.Msg{Kind: api.MsgToken, Epoch: at})
		other := copied(d)
		other.Sides[at] = side(10+at, at, "FDTBA")
		want(t, "get", d, got, err, other)
	}
}

func TestErrorsOfGet(t *testing.T) { // P13.2: the side, then the kind, then what lies there
	sides := map[[2]int]bool{{0, 4}: true, {2, 5}: true, {4, 0}: true, {9, api.MaxEpoch}: true}
	peers := []int{api.MinInt, -1, 0, 1, 2, 3, 4, 5, 8, 9, 10, api.MaxInt}
	epochs := []int{api.MinInt, -1, 0, 1, 4, 5, 6, 65534, 65535, 65536, api.MaxInt}
	kinds := []api.MsgKind{api.MinInt, -1, 0, 1, 2, 3, 4, 5, 6, 7, 8, 9, 10, 257, 258, api.MaxInt}
	nums := []int{api.MinInt, -1, 0, 1, 65535, api.MaxInt}
	for _, what := range []string{"", "T", "F", "FD", "FDTBA"} {
		for _, peer := range peers {
			for _, epoch := range epochs {
				for _, k := range kinds {
					for _, num := range nums {
						d := diner(api.Hungry, side(0, 4, what), side(2, 5, what), side(4, 0, what), side(9, api.MaxEpoch, what))
						got, err := Get(d, peer, api.Msg{Kind: k, Epoch: epoch, Num: num})
						lies := k == api.MsgFork && strings.Contains(what, "F") || k == api.MsgToken && strings.Contains(what, "T")
						switch {
						case !sides[[2]int{peer, epoch}]:
							wantError(t, "get", d, got, err, api.ErrDineSide)
						case k != api.MsgFork && k != api.MsgToken || num != 0:
							wantError(t, "get", d, got, err, api.ErrDineKind)
						case lies:
							wantError(t, "get", d, got, err, api.ErrDineHas)
						case err != api.OK || same(got, d):
							t.Errorf("get of %+v, from %d, %d@%d: %+v, error %d", d, peer, k, epoch, got, err)
						}
					}
				}
			}
		}
	}
	got, err := Get(api.Diner{}, 0, api.Msg{})
	wantError(t, "get", api.Diner{}, got, err, api.ErrDineSide)
}

// fired is what becomes of a side of a diner of a phase, by a table, and what goes out there; but for the dirt behind all.
func fired(p api.Phase, what string) (string, []api.MsgKind) {
	switch {
	case p == api.Thinking && what == "FDT":
		return "T", []api.MsgKind{api.MsgFork}
	case p == api.Hungry && what == "FDT":
		return "", []api.MsgKind{api.MsgFork, api.MsgToken}
	case p == api.Hungry && what == "T":
		return "", []api.MsgKind{api.MsgToken}
	}
	return what, nil
}

// shown is what lies on a side: Fork, Dirty, Token.
func shown(x api.Side) string {
	s := ""
	if x.Fork {
		s += "F"
	}
	if x.Dirty {
		s += "D"
	}
	if x.Token {
		s += "T"
	}
	return s
}

func TestFireOfAllSmall(t *testing.T) { // P13.3
	for _, d := range allSmall() {
		behind, forks := copied(d), 0
		var out []api.Mail
		for i, x := range d.Sides {
			what, kinds := fired(d.Phase, shown(x))
			behind.Sides[i] = put(x, what)
			for _, k := range kinds {
				out = append(out, sent(k, x.Peer, x.Epoch))
			}
			if strings.Contains(what, "F") {
				forks++
			}
		}
		if d.Phase == api.Hungry && forks == len(d.Sides) {
			behind.Phase = api.Eating
			for i := range behind.Sides {
				behind.Sides[i].Dirty = true
			}
		}
		wantFire(t, d, behind, out...)
	}
}

func TestFire(t *testing.T) { // P13.3
	// nobody near: one who is hungry eats
	wantFire(t, diner(api.Hungry), diner(api.Eating))
	wantFire(t, diner(api.Thinking), diner(api.Thinking))
	wantFire(t, diner(api.Eating), diner(api.Eating))
	wantFire(t, api.Diner{}, api.Diner{})
	// side by side, the fork ahead of the token
	wantFire(t, diner(api.Hungry, side(0, 1, "FDT"), side(1, 2, "T"), side(2, 3, "FT"), side(4, 4, "FDT"), side(5, 5, "FD"), side(6, 6, "T")),
		diner(api.Hungry, side(0, 1, ""), side(1, 2, ""), side(2, 3, "FT"), side(4, 4, ""), side(5, 5, "FD"), side(6, 6, "")),
		sent(api.MsgFork, 0, 1), sent(api.MsgToken, 0, 1), sent(api.MsgToken, 1, 2), sent(api.MsgFork, 4, 4), sent(api.MsgToken, 4, 4), sent(api.MsgToken, 6, 6))
	// neither bottle nor ask nor the state of a side is asked for, or changed
	odd := api.Side{Peer: 7, Epoch: 9, State: api.SideLeaving, Fork: true, Dirty: true, Token: true, Bottle: true, Ask: true}
	left := api.Side{Peer: 7, Epoch: 9, State: api.SideLeaving, Token: true, Bottle: true, Ask: true}
	wantFire(t, diner(api.Thinking, odd), diner(api.Thinking, left), sent(api.MsgFork, 7, 9))
	// it goes out from its own id
	d := api.Diner{ID: 0, Phase: api.Hungry, Sides: []api.Side{side(api.MaxInt, api.MaxEpoch, "T")}}
	wantFire(t, d, api.Diner{Phase: api.Hungry, Sides: []api.Side{side(api.MaxInt, api.MaxEpoch, "")}},
		api.Mail{To: api.MaxInt, Msg: api.Msg{Kind: api.MsgToken, Epoch: api.MaxEpoch}})
}

func TestFireOfManySides(t *testing.T) { // P13.3
	const many = 63
	wantFire(t, diner(api.Hungry, sidesOf(many, "FTB")...), diner(api.Eating, sidesOf(many, "FDTB")...))
	var forks, both []api.Mail
	for i := range many {
		forks = append(forks, sent(api.MsgFork, 10+i, i))
		both = append(both, sent(api.MsgFork, 10+i, i), sent(api.MsgToken, 10+i, i))
	}
	wantFire(t, diner(api.Thinking, sidesOf(many, "FDT")...), diner(api.Thinking, sidesOf(many, "T")...), forks...)
	wantFire(t, diner(api.Hungry, sidesOf(many, "FDT")...), diner(api.Hungry, sidesOf(many, "")...), both...)
	wantFire(t, diner(api.Eating, sidesOf(many, "FDT")...), diner(api.Eating, sidesOf(many, "FDT")...))
	for at := range many { // one fork that isn't there is enough
		d := diner(api.Hungry, sidesOf(many, "F")...)
		d.Sides[at].Fork = false
		wantFire(t, d, copied(d))
		d.Sides[at].Token = true
		behind := copied(d)
		behind.Sides[at].Token = false
		wantFire(t, d, behind, sent(api.MsgToken, 10+at, at))
	}
}

func TestNothingMoreIsToBeDone(t *testing.T) { // P13.4
	for _, d := range mayBe() {
		once, _, err := Fire(d)
		if err != api.OK || Check(once) != api.OK {
			t.Fatalf("fire of %+v: %+v, error %d", d, once, err)
		}
		wantFire(t, once, once)
	}
}

// next is all that may become of a diner by one call.
func next(d api.Diner) []api.Diner {
	var l []api.Diner
	keep := func(other api.Diner, err api.Errno) {
		if err == api.OK {
			l = append(l, other)
		}
	}
	keep(Start(d))
	keep(Stop(d))
	for _, x := range d.Sides {
		keep(Get(d, x.Peer, api.Msg{Kind: api.MsgFork, Epoch: x.Epoch}))
		keep(Get(d, x.Peer, api.Msg{Kind: api.MsgToken, Epoch: x.Epoch}))
	}
	other, _, err := Fire(d)
	keep(other, err)
	return l
}

func TestCleanForksAreKept(t *testing.T) { // P13.4: by each call, so by all of them
	for _, d := range allSmall() {
		for _, other := range next(d) {
			if err := Check(other); err != api.OK {
				t.Errorf("from %+v to %+v: error %d", d, other, err)
			}
			for i, x := range d.Sides {
				y := other.Sides[i]
				if x.Fork && !x.Dirty && (!y.Fork || y.Dirty && other.Phase != api.Eating) {
					t.Errorf("from %+v to %+v: a clean fork isn't kept", d, other)
				}
			}
		}
	}
}

func TestSame(t *testing.T) { // P13.1
	make2 := func() api.Diner {
		x := api.Side{Peer: 4, Epoch: 4, State: api.SideClosing, Fork: true, Dirty: true}
		return diner(api.Hungry, side(1, 2, "FTBA"), x)
	}
	wantSame := func(a, b api.Diner, want bool) {
		t.Helper()
		if Same(a, b) != want || Same(b, a) != want {
			t.Errorf("%+v, %+v: same %v", a, b, !want)
		}
	}
	wantSame(make2(), make2(), true)
	wantSame(api.Diner{}, api.Diner{Sides: []api.Side{}}, true)
	wantSame(api.Diner{}, api.Diner{Sides: []api.Side{{}}}, false)
	for _, change := range []func(d *api.Diner){
		func(d *api.Diner) { d.ID++ },
		func(d *api.Diner) { d.Phase++ },
		func(d *api.Diner) { d.Sides = nil },
		func(d *api.Diner) { d.Sides = d.Sides[:1] },
		func(d *api.Diner) { d.Sides = d.Sides[1:] },
		func(d *api.Diner) { d.Sides = append(d.Sides, api.Side{}) },
		func(d *api.Diner) { slices.Reverse(d.Sides) },
	} {
		other := make2()
		change(&other)
		wantSame(make2(), other, false)
	}
	for at := range 2 {
		for _, change := range []func(x *api.Side){
			func(x *api.Side) { x.Peer++ },
			func(x *api.Side) { x.Epoch++ },
			func(x *api.Side) { x.State++ },
			func(x *api.Side) { x.Fork = !x.Fork },
			func(x *api.Side) { x.Dirty = !x.Dirty },
			func(x *api.Side) { x.Token = !x.Token },
			func(x *api.Side) { x.Bottle = !x.Bottle },
			func(x *api.Side) { x.Ask = !x.Ask },
		} {
			other := make2()
			change(&other.Sides[at])
			wantSame(make2(), other, false)
		}
	}
	for _, d := range mayNotBe() { // whether they may be isn't asked for
		wantSame(d, copied(d), true)
	}
}

// answers are the diners that all calls answer, and the mail, if any.
func answers(d api.Diner) ([]api.Diner, []api.Mail) {
	_, mail, _ := Fire(d)
	return next(d), mail
}

func TestHandedInStays(t *testing.T) { // the rules that hold everywhere
	spare := side(70, 8, "FTB")
	for _, d := range slices.Concat(mayBe(), mayNotBe()) {
		whole := append(slices.Clone(d.Sides), spare)
		given := d
		given.Sides = whole[:len(d.Sides)]
		answers(given)
		Check(given)
		Same(given, given)
		if !same(given, d) || whole[len(d.Sides)] != spare {
			t.Errorf("%+v is changed: %+v", d, whole)
		}
	}
}

func TestAnswersAreNewMemory(t *testing.T) { // the rules that hold everywhere
	for _, d := range allSmall() {
		given := copied(d)
		got, mail := answers(given)
		again, mailAgain := answers(copied(d))
		for i := range got { // each one is spoilt, its spare room too, when those ahead are spoilt already
			if !same(got[i], again[i]) {
				t.Errorf("%+v: answers share memory", d)
			}
			all := got[i].Sides[:cap(got[i].Sides)]
			for k := range all {
				all[k] = api.Side{Peer: -50}
			}
		}
		if !same(given, d) {
			t.Errorf("%+v: shared by an answer", d)
		}
		for i := range mail {
			mail[i] = api.Mail{}
		}
		if _, third := answers(given); !slices.Equal(third, mailAgain) {
			t.Errorf("%+v: mail is shared", d)
		}
	}
}

func TestLongRows(t *testing.T) { // P1: every call ends, at rows of many too
	const much = 1000000
	d := api.Diner{ID: 3, Phase: api.Hungry, Sides: sidesOf(much, "FDT")}
	if Check(d) != api.ErrDineForm || !Same(d, d) {
		t.Error("check of many sides")
	}
	if l, mail := answers(d); len(l) != 0 || len(mail) != 0 {
		t.Error("answers of many sides")
	}
}
