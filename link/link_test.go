package link

import (
	"fmt"
	"math"
	"slices"
	"strings"
	"testing"
	"unsafe"

	"narthex/api"
)

// plain is an end as the chapter tells it: of each body that waits its number, and whether it is out, and was.
type plain struct {
	epoch, window, queue, wait int
	bodies                     []plainBody
	first, wanted              uint64
	owes                       bool
	age                        int
}

type plainBody struct {
	b           string
	number      uint64
	out, wasOut bool
}

func newPlain(epoch int, first uint64, window, queue, wait int) *plain {
	p := &plain{epoch: epoch, first: first, wanted: first, window: window, queue: queue, wait: wait}
	if window < 1 {
		p.window = 1
	}
	if window > 8 {
		p.window = 8
	}
	if queue < 0 {
		p.queue = 0
	}
	if queue > 64 {
		p.queue = 64
	}
	if wait < 1 {
		p.wait = 1
	}
	if wait > 100 {
		p.wait = 100
	}
	return p
}

func (p *plain) send(b string) api.Errno {
	if len(b) > 64 {
		return 90
	}
	if len(p.bodies) >= p.queue {
		return 91
	}
	p.bodies = append(p.bodies, plainBody{b: b, number: p.first + uint64(len(p.bodies))})
	return 0
}

// count is how many of those that wait are so.
func (p *plain) count(so func(b plainBody) bool) int {
	n := 0
	for _, b := range p.bodies {
		if so(b) {
			n++
		}
	}
	return n
}

func (p *plain) outs() int    { return p.count(func(b plainBody) bool { return b.out }) }
func (p *plain) wereOut() int { return p.count(func(b plainBody) bool { return b.wasOut }) }

func (p *plain) goOut() []api.Frame {
	var l []api.Frame
	for i, b := range p.bodies {
		if !b.out && p.outs() < p.window {
			l = append(l, api.Frame{Kind: 1, Epoch: p.epoch, Seq: b.number, Ack: p.wanted, Body: b.b})
			p.bodies[i].out, p.bodies[i].wasOut = true, true
		}
	}
	if len(l) == 0 && p.owes {
		l = []api.Frame{{Kind: 2, Epoch: p.epoch, Ack: p.wanted}}
	}
	p.owes = false
	return l
}

func (p *plain) tick() {
	if p.outs() == 0 {
		return
	}
	p.age++
	if p.age == p.wait {
		p.age = 0
		for i := range p.bodies {
			p.bodies[i].out = false
		}
	}
}

func (p *plain) take(f api.Frame) (string, bool) {
	kind := f.Kind == 1 || f.Kind == 2 && f.Body == ""
	if !kind || f.Epoch < 0 || f.Epoch > 65535 || len(f.Body) > 64 || f.Epoch != p.epoch {
		return "", false
	}
	for k := range p.wereOut() {
		if p.bodies[k].number+1 == f.Ack {
			p.bodies = append([]plainBody(nil), p.bodies[k+1:]...)
			p.first, p.age = f.Ack, 0
			break
		}
	}
	if f.Kind == 2 {
		return "", false
	}
	p.owes = true
	if f.Seq != p.wanted {
		return "", false
	}
	p.wanted++
	return f.Body, true
}

// pair is an end and a plain one, with which the same is done.
type pair struct {
	x *End
	p *plain
}

func newPair(epoch int, first uint64, window, queue, wait int) pair {
	return pair{New(epoch, first, window, queue, wait), newPlain(epoch, first, window, queue, wait)}
}

// Each of these does one thing with both, and ends the test if they don't answer the same.

func (c pair) send(t *testing.T, b string) api.Errno {
	t.Helper()
	got, want := c.x.Send(b), c.p.send(b)
	if got != want {
		t.Fatalf("send of %q: got %d, want %d", b, got, want)
	}
	return got
}

func (c pair) out(t *testing.T) []api.Frame {
	t.Helper()
	got, want := c.x.Out(), c.p.goOut()
	if !slices.Equal(got, want) {
		t.Fatalf("out: got %v, want %v", got, want)
	}
	return got
}

func (c pair) take(t *testing.T, f api.Frame) {
	t.Helper()
	got, ok := c.x.Take(f)
	want, wantOK := c.p.take(f)
	if got != want || ok != wantOK {
		t.Fatalf("take of %v: got %q, %v, want %q, %v", f, got, ok, want, wantOK)
	}
}

func (c pair) tick() {
	c.x.Tick()
	c.p.tick()
}

func (c pair) wantSame(t *testing.T) {
	t.Helper()
	first, wanted := c.x.Numbers()
	if c.x.Waiting() != len(c.p.bodies) || first != c.p.first || wanted != c.p.wanted {
		t.Fatalf("got %d that wait, numbers %d, %d, want %v", c.x.Waiting(), first, wanted, c.p)
	}
}

// wantSameLater goes on with both, so that all is seen of what isn't told: what is out, what is owed, the age.
func (c pair) wantSameLater(t *testing.T) {
	t.Helper()
	c.out(t)
	for range c.p.wait + 1 {
		c.tick()
		c.out(t)
	}
	c.wantSame(t)
}

// someFirsts are first numbers, at the edges too.
func someFirsts() []uint64 {
	return []uint64{0, 1, 5, math.MaxInt64, 1 << 63, math.MaxUint64 - 2, math.MaxUint64 - 1, math.MaxUint64}
}

// someEpochs are epochs, some of which are none of a frame.
func someEpochs() []int {
	return []int{0, 1, 7, 65534, 65535, 65536, 65537, -1, -65536, math.MaxInt64, math.MinInt64}
}

func mayBe(epoch int) bool { return epoch >= 0 && epoch <= 65535 }

// letters are so many bodies, of one letter each.
func letters(n int) []string {
	var l []string
	for i := range n {
		l = append(l, string(rune('a'+i%26)))
	}
	return l
}

// chances tells numbers below others, always the same ones.
func chances(seed uint64) func(below int) int {
	return func(below int) int {
		seed = seed*6364136223846793005 + 1442695040888963407
		return int(seed>>33) % below
	}
}

// endOf is an end on which some bodies wait.
func endOf(t *testing.T, window, wait int, bodies ...string) *End {
	t.Helper()
	x := New(7, 10, window, 64, wait)
	for _, b := range bodies {
		if e := x.Send(b); e != 0 {
			t.Fatalf("send of %q: %d", b, e)
		}
	}
	return x
}

// wantBodies holds what goes out against bodies, of which the first one has a number.
func wantBodies(t *testing.T, l []api.Frame, first, ack uint64, want ...string) {
	t.Helper()
	var frames []api.Frame
	for i, b := range want {
		frames = append(frames, api.Frame{Kind: 1, Epoch: 7, Seq: first + uint64(i), Ack: ack, Body: b})
	}
	if !slices.Equal(l, frames) {
		t.Fatalf("out: got %v, want %v", l, frames)
	}
}

// wantAnswer holds what goes out against an answer alone, or against nothing.
func wantAnswer(t *testing.T, l []api.Frame, some bool, ack uint64) {
	t.Helper()
	if !some && len(l) != 0 || some && !slices.Equal(l, []api.Frame{{Kind: 2, Epoch: 7, Ack: ack}}) {
		t.Fatalf("out: got %v, want an answer: %v, of %d", l, some, ack)
	}
}

func wantNumbers(t *testing.T, x *End, waiting int, first, wanted uint64) {
	t.Helper()
	a, b := x.Numbers()
	if x.Waiting() != waiting || a != first || b != wanted {
		t.Fatalf("got %d that wait, numbers %d, %d, want %d, %d, %d", x.Waiting(), a, b, waiting, first, wanted)
	}
}

func wantTake(t *testing.T, x *End, f api.Frame, want string, wantOK bool) {
	t.Helper()
	if s, ok := x.Take(f); s != want || ok != wantOK {
		t.Fatalf("take of %v: got %q, %v, want %q, %v", f, s, ok, want, wantOK)
	}
}

func data(seq, ack uint64, b string) api.Frame {
	return api.Frame{Kind: 1, Epoch: 7, Seq: seq, Ack: ack, Body: b}
}

func answer(ack uint64) api.Frame { return api.Frame{Kind: 2, Epoch: 7, Ack: ack} }

func TestNewHasNothing(t *testing.T) { // P9.1
	for _, first := range someFirsts() {
		for _, epoch := range someEpochs() {
			x := New(epoch, first, 3, 3, 2)
			for range 5 {
				wantNumbers(t, x, 0, first, first)
				if l := x.Out(); len(l) != 0 {
					t.Errorf("a new end lets out %v", l)
				}
				x.Tick()
			}
			newPair(epoch, first, 3, 3, 2).wantSameLater(t)
		}
	}
}

func TestNumbersOfNew(t *testing.T) { // P9.1, P9.2: what goes out is of the epoch, and of the first number on, and goes round
	for _, first := range someFirsts() {
		for _, epoch := range someEpochs() {
			x := New(epoch, first, 4, 4, 2)
			var want []api.Frame
			number := first
			for _, b := range letters(4) {
				x.Send(b)
				want = append(want, api.Frame{Kind: 1, Epoch: epoch, Seq: number, Ack: first, Body: b})
				number++
			}
			if l := x.Out(); !slices.Equal(l, want) {
				t.Errorf("got %v, want %v", l, want)
			}
		}
	}
}

func TestWindow(t *testing.T) { // P9.1
	for window, want := range map[int]int{math.MinInt64: 1, -8: 1, 0: 1, 1: 1, 2: 2, 3: 3, 7: 7, 8: 8, 9: 8, 64: 8, 1<<32 + 2: 8, math.MaxInt64: 8} {
		x := endOf(t, window, 2, letters(20)...)
		if l := x.Out(); len(l) != want {
			t.Errorf("window %d: %d are out, want %d", window, len(l), want)
		}
		if l := x.Out(); len(l) != 0 {
			t.Errorf("window %d: more are out: %v", window, l)
		}
		wantNumbers(t, x, 20, 10, 10)
	}
}

func TestQueue(t *testing.T) { // P9.1, P9.2
	for queue, want := range map[int]int{math.MinInt64: 0, -5: 0, -1: 0, 0: 0, 1: 1, 2: 2, 8: 8, 9: 9, 63: 63, 64: 64, 65: 64, 100: 64, 1<<32 + 2: 64, math.MaxInt64: 64} {
		x := New(7, 10, 8, queue, 2)
		for i := range want + 2 {
			wantE := api.OK
			if i >= want {
				wantE = api.ErrLinkFull
			}
			if e := x.Send("a"); e != wantE {
				t.Errorf("queue %d: send %d: got %d, want %d", queue, i, e, wantE)
			}
		}
		wantNumbers(t, x, want, 10, 10)
		x.Out() // those that are out wait still
		if e := x.Send("a"); e != api.ErrLinkFull {
			t.Errorf("queue %d: got %d", queue, e)
		}
	}
}

func TestWait(t *testing.T) { // P9.1, P9.2
	for wait, want := range map[int]int{math.MinInt64: 1, -1: 1, 0: 1, 1: 1, 2: 2, 3: 3, 99: 99, 100: 100, 101: 100, 1<<32 + 2: 100, math.MaxInt64: 100} {
		x := endOf(t, 2, wait, "a", "b", "c")
		for range 3 {
			wantBodies(t, x.Out(), 10, 10, "a", "b")
			for i := range want {
				if l := x.Out(); len(l) != 0 {
					t.Errorf("wait %d: behind %d ticks: %v", wait, i, l)
				}
				x.Tick()
			}
		}
	}
}

func TestSend(t *testing.T) { // P9.2
	long := strings.Repeat("ab", 40)
	x := New(7, 10, 8, 4, 2)
	for _, size := range []int{0, 1, 63, 64, 65, 66} {
		want := api.OK
		if size > 64 {
			want = api.ErrLinkBody
		}
		if e := x.Send(long[:size]); e != want {
			t.Errorf("%d bytes: got %d, want %d", size, e, want)
		}
	}
	if e := x.Send(strings.Repeat("a", 1<<20)); e != api.ErrLinkBody {
		t.Errorf("many bytes: %d", e)
	}
	if e := x.Send("é世\xff\x00"); e != api.ErrLinkFull {
		t.Errorf("one too many: %d", e)
	}
	if e := x.Send(long[:65]); e != api.ErrLinkBody { // the first one named
		t.Errorf("one too many, too long: %d", e)
	}
	wantBodies(t, x.Out(), 10, 10, "", "a", long[:63], long[:64])
}

func TestBytesAreCountedNotRunes(t *testing.T) { // P9.2
	x := New(7, 10, 8, 4, 2)
	if e := x.Send(strings.Repeat("é", 32)); e != 0 {
		t.Error(e)
	}
	if e := x.Send(strings.Repeat("é", 32) + "a"); e != api.ErrLinkBody {
		t.Error(e)
	}
	if e := x.Send("\xff\x00\n"); e != 0 {
		t.Error(e)
	}
	wantBodies(t, x.Out(), 10, 10, strings.Repeat("é", 32), "\xff\x00\n")
}

func TestOutGoesOn(t *testing.T) { // P9.2: each goes out once, in order, as soon as fewer than window are out
	x := endOf(t, 3, 5, "a", "b")
	wantBodies(t, x.Out(), 10, 10, "a", "b")
	x.Send("c")
	x.Send("d")
	wantBodies(t, x.Out(), 12, 10, "c")
	wantAnswer(t, x.Out(), false, 0)
	wantTake(t, x, answer(12), "", false)
	wantNumbers(t, x, 2, 12, 10)
	x.Send("e")
	x.Send("f")
	wantBodies(t, x.Out(), 13, 10, "d", "e")
	wantTake(t, x, answer(15), "", false)
	wantBodies(t, x.Out(), 15, 10, "f")
	wantTake(t, x, answer(16), "", false)
	wantNumbers(t, x, 0, 16, 10)
	wantAnswer(t, x.Out(), false, 0)
}

func TestAnswers(t *testing.T) { // P9.2, P9.3
	x := endOf(t, 1, 5)
	wantTake(t, x, data(10, 10, "p"), "p", true)
	wantAnswer(t, x.Out(), true, 11)
	wantAnswer(t, x.Out(), false, 0)
	wantTake(t, x, data(10, 10, "p"), "", false) // came already: the answer may be lost
	wantTake(t, x, data(10, 10, "p"), "", false)
	wantAnswer(t, x.Out(), true, 11) // one of two
	wantTake(t, x, data(13, 10, "s"), "", false)
	wantAnswer(t, x.Out(), true, 11)
	wantTake(t, x, answer(10), "", false) // none is owed of an answer
	wantAnswer(t, x.Out(), false, 0)
	x.Send("a")
	x.Send("b")
	wantTake(t, x, data(11, 10, "q"), "q", true)
	wantBodies(t, x.Out(), 10, 12, "a") // that is the answer
	wantAnswer(t, x.Out(), false, 0)
	wantTake(t, x, data(12, 10, "r"), "r", true)
	wantAnswer(t, x.Out(), true, 13) // b waits, but may not go out
	wantAnswer(t, x.Out(), false, 0)
}

func TestWhatIsOwedIsNoMoreBehindTime(t *testing.T) { // P9.2: a tick owes nothing, and forgets nothing
	x := endOf(t, 2, 1, "a")
	x.Out()
	wantTake(t, x, data(10, 10, "p"), "p", true)
	x.Tick()
	wantBodies(t, x.Out(), 10, 11, "a")
	wantAnswer(t, x.Out(), false, 0)
	wantTake(t, x, data(11, 11, "q"), "q", true)
	x.Tick()
	x.Tick()
	wantAnswer(t, x.Out(), true, 12)
	x.Tick()
	wantAnswer(t, x.Out(), false, 0)
}

func TestAgainAsTheyAreNow(t *testing.T) { // P9.2: what goes out again tells the number that is waited for now
	x := endOf(t, 2, 1, "a", "b", "c")
	wantBodies(t, x.Out(), 10, 10, "a", "b")
	wantTake(t, x, data(10, 11, "p"), "p", true)
	x.Tick()
	wantBodies(t, x.Out(), 11, 11, "b", "c")
}

func TestAge(t *testing.T) { // P9.2, P9.3
	ticks := func(x *End, n int) {
		for range n {
			x.Tick()
		}
	}
	x := endOf(t, 2, 3, "a", "b", "c")
	ticks(x, 5) // nothing is out
	x.Out()
	ticks(x, 2)
	wantAnswer(t, x.Out(), false, 0)
	ticks(x, 1)
	wantBodies(t, x.Out(), 10, 10, "a", "b")
	ticks(x, 2)
	wantTake(t, x, answer(11), "", false) // the age is 0
	ticks(x, 2)
	wantBodies(t, x.Out(), 12, 10, "c") // it is 2 still
	ticks(x, 1)
	wantBodies(t, x.Out(), 11, 10, "b", "c")
	ticks(x, 2)
	wantTake(t, x, data(10, 11, "p"), "p", true)
	for _, ack := range []uint64{11, 10, 14, 0, math.MaxUint64} { // none of these is heeded
		wantTake(t, x, answer(ack), "", false)
		wantTake(t, x, data(10, ack, "p"), "", false)
	}
	ticks(x, 1)
	wantBodies(t, x.Out(), 11, 11, "b", "c")
	ticks(x, 2)
	wantTake(t, x, answer(13), "", false) // none is out
	ticks(x, 2)
	x.Send("d")
	wantBodies(t, x.Out(), 13, 11, "d")
	ticks(x, 2)
	wantAnswer(t, x.Out(), false, 0)
	ticks(x, 1)
	wantBodies(t, x.Out(), 13, 11, "d")
}

func TestWhichAcksAreHeeded(t *testing.T) { // P9.3
	for _, first := range someFirsts() {
		for ever := range 4 { // how many were out
			for _, again := range []bool{false, true} {
				for _, k := range []uint64{0, 1, 2, 3, 4, 5, 6, 1 << 32, 1<<32 + 1, 1 << 63, 1<<63 + 1, math.MaxUint64, math.MaxUint64 - 1} {
					for kind := range 2 {
						c := newPair(7, first, 3, 5, 1)
						sendAndGoOut(t, c, ever)
						if again {
							c.tick() // none of them is out any more, but they were
						}
						f := answer(first + k)
						if kind == 0 {
							f = data(first+1, first+k, "p")
						}
						want := 5
						if k >= 1 && k <= uint64(ever) {
							want -= int(k)
						}
						c.take(t, f)
						wantNumbers(t, c.x, want, first+uint64(5-want), first)
						c.wantSameLater(t)
					}
				}
			}
		}
	}
}

// sendAndGoOut lets five bodies wait of which some went out.
func sendAndGoOut(t *testing.T, c pair, ever int) {
	t.Helper()
	for i, b := range letters(5) {
		if i == ever && ever > 0 {
			c.out(t)
		}
		c.send(t, b)
	}
}

func TestWhichBodiesAreTold(t *testing.T) { // P9.3
	for _, first := range someFirsts() {
		x := New(7, first, 1, 1, 1)
		wanted := first
		for _, body := range []string{"p", "", strings.Repeat("é", 32), "p", "\x00\xff"} {
			for _, off := range []uint64{1, 2, 8, 1 << 32, 1 << 63, math.MaxUint64, math.MaxUint64 - 1} {
				wantTake(t, x, data(wanted+off, first, body), "", false)
				wantNumbers(t, x, 0, first, wanted)
			}
			f := data(wanted, first, body)
			wantTake(t, x, f, body, true)
			wanted++
			wantNumbers(t, x, 0, first, wanted)
			wantTake(t, x, f, "", false)
			wantNumbers(t, x, 0, first, wanted)
		}
	}
}

func TestAnAnswersSeqIsNothing(t *testing.T) { // P9.3
	x := endOf(t, 2, 2, "a", "b")
	x.Out()
	wantTake(t, x, api.Frame{Kind: 2, Epoch: 7, Seq: 10, Ack: 11}, "", false)
	wantNumbers(t, x, 1, 11, 10)
	wantAnswer(t, x.Out(), false, 0)
}

func TestFramesThatAreNone(t *testing.T) { // P9.3: nothing happens, nothing is owed
	good := data(10, 12, "p")
	for i, wrong := range []func(f *api.Frame){
		func(f *api.Frame) { f.Kind = 0 },
		func(f *api.Frame) { f.Kind = 3 },
		func(f *api.Frame) { f.Kind = -1 },
		func(f *api.Frame) { f.Kind = 257 },
		func(f *api.Frame) { f.Kind = 2 }, // with a body
		func(f *api.Frame) { f.Body = strings.Repeat("a", 65) },
		func(f *api.Frame) { f.Body = strings.Repeat("a", 1<<20) },
		func(f *api.Frame) { f.Epoch = 6 },
		func(f *api.Frame) { f.Epoch = 8 },
		func(f *api.Frame) { f.Epoch = 0 },
		func(f *api.Frame) { f.Epoch = -7 },
		func(f *api.Frame) { f.Epoch = 7 + 65536 },
		func(f *api.Frame) { f.Epoch = 7 + 1<<32 },
		func(f *api.Frame) { f.Kind, f.Body, f.Epoch = 2, "", 8 },
	} {
		f := good
		wrong(&f)
		x := endOf(t, 2, 2, "a", "b", "c")
		x.Out()
		x.Tick()
		wantTake(t, x, f, "", false)
		wantNumbers(t, x, 3, 10, 10)
		if l := x.Out(); len(l) != 0 {
			t.Errorf("wrong frame %d: out: %v", i, l)
		}
		x.Tick()
		wantBodies(t, x.Out(), 10, 10, "a", "b")
		wantTake(t, x, good, "p", true)
		wantNumbers(t, x, 1, 12, 11)
	}
}

func TestEpochs(t *testing.T) { // P9.3: of its own epoch alone, and of that only if a frame may be of it
	for _, epoch := range someEpochs() {
		for _, other := range someEpochs() {
			x := New(epoch, 10, 2, 2, 2)
			f := data(10, 10, "p")
			f.Epoch = other
			_, ok := x.Take(f)
			if ok != (epoch == other && mayBe(epoch)) {
				t.Errorf("an end of epoch %d, a frame of %d: %v", epoch, other, ok)
			}
			if l := x.Out(); (len(l) == 1) != ok {
				t.Errorf("an end of epoch %d, a frame of %d: out: %v", epoch, other, l)
			}
		}
	}
}

func TestExample(t *testing.T) { // P9.4
	x, y := endOf(t, 8, 5, "a", "b"), endOf(t, 8, 5)
	l := x.Out()
	wantBodies(t, l, 10, 10, "a", "b")
	wantTake(t, y, l[1], "", false)
	m := y.Out()
	wantAnswer(t, m, true, 10)
	wantTake(t, x, m[0], "", false)
	wantNumbers(t, x, 2, 10, 10)
}

// shortActs are what may be done with a pair in short rows.
func shortActs() []func(t *testing.T, c pair) {
	return []func(t *testing.T, c pair){
		func(t *testing.T, c pair) { c.send(t, string(rune('a'+len(c.p.bodies)))) },
		func(t *testing.T, c pair) { c.out(t) },
		func(t *testing.T, c pair) { c.tick() },
		func(t *testing.T, c pair) { c.take(t, answer(c.p.first+1)) },
		func(t *testing.T, c pair) { c.take(t, answer(c.p.first+2)) },
		func(t *testing.T, c pair) { c.take(t, data(c.p.wanted, c.p.first, "p")) },
		func(t *testing.T, c pair) { c.take(t, data(c.p.wanted-1, c.p.first+1, "q")) },
	}
}

func TestAllShortRowsOfActs(t *testing.T) { // P9.1, P9.2, P9.3
	const long = 6
	acts := shortActs()
	rows := 1
	for range long {
		rows *= len(acts)
	}
	for _, like := range [][3]int{{1, 2, 2}, {2, 3, 1}, {2, 2, 2}} {
		for row := range rows {
			c := newPair(7, math.MaxUint64, like[0], like[1], like[2])
			for left, i := row, 0; i < long; left, i = left/len(acts), i+1 {
				acts[left%len(acts)](t, c)
				c.wantSame(t)
			}
			c.wantSameLater(t)
		}
	}
}

func TestAsAPlainEnd(t *testing.T) { // P9.1, P9.2, P9.3: longer rows, here and there
	chance := chances(9)
	firsts := someFirsts()
	for range 1500 {
		c := newPair(7, firsts[chance(len(firsts))], chance(10), chance(70), chance(7))
		for range 250 {
			switch near := uint64(chance(12)) - 2; chance(8) {
			case 0, 1, 2:
				c.send(t, strings.Repeat(string(rune('a'+chance(26))), chance(67)))
			case 3:
				c.out(t)
			case 4:
				c.tick()
			case 5:
				c.take(t, answer(c.p.first+near))
			case 6:
				c.take(t, data(c.p.wanted+uint64(chance(3))-1, c.p.first+near, strings.Repeat("p", chance(66))))
			default:
				c.take(t, api.Frame{Kind: api.FrameKind(chance(4)), Epoch: 6 + chance(3), Seq: c.p.wanted, Ack: c.p.first + near})
			}
			c.wantSame(t)
		}
		c.wantSameLater(t)
	}
}

// both are two ends of one epoch and first number, all frames that ever went out to each, and what each sent and was told.
type both struct {
	ends       [2]*End
	came       [2][]api.Frame
	sent, told [2][]string
}

func (b *both) send(side int, body string) {
	if b.ends[side].Send(body) == api.OK {
		b.sent[side] = append(b.sent[side], body)
	}
}

func (b *both) take(t *testing.T, side int, f api.Frame) {
	t.Helper()
	s, ok := b.ends[side].Take(f)
	if !ok {
		return
	}
	at := len(b.told[side])
	if other := b.sent[1-side]; at >= len(other) || other[at] != s {
		t.Fatalf("side %d is told %q at %d", side, s, at)
	}
	b.told[side] = append(b.told[side], s)
}

// allComes lets all that goes out come in order, in so many rounds, each with some ticks.
func (b *both) allComes(t *testing.T, rounds, ticks int) {
	t.Helper()
	for range rounds {
		for side := range 2 {
			for _, f := range b.ends[side].Out() {
				b.take(t, 1-side, f)
			}
			for range ticks {
				b.ends[side].Tick()
			}
		}
	}
	for side := range 2 {
		if n := b.ends[side].Waiting(); n != 0 || !slices.Equal(b.told[side], b.sent[1-side]) {
			t.Fatalf("side %d: %d wait, told %q, want %q", side, n, b.told[side], b.sent[1-side])
		}
		if l := b.ends[side].Out(); len(l) != 0 {
			t.Fatalf("side %d: all came, but there goes %v", side, l)
		}
	}
}

func TestInOrderAllComesWithoutTime(t *testing.T) { // P9.4
	for _, first := range someFirsts() {
		for window := 1; window <= 8; window++ {
			for _, many := range [][2]int{{1, 0}, {0, 1}, {5, 5}, {64, 0}, {64, 3}, {64, 64}} {
				b := &both{ends: [2]*End{New(7, first, window, 64, 3), New(7, first, 9-window, 64, 3)}}
				for side := range 2 {
					for i := range many[side] {
						b.send(side, fmt.Sprint(side, i))
					}
				}
				b.allComes(t, 150, 0)
			}
		}
	}
}

func TestWhateverTheNetDoes(t *testing.T) { // P9.4: lost, doubled, turned round, and late
	chance := chances(94)
	firsts := someFirsts()
	for round := range 1500 {
		first, wait := firsts[round%len(firsts)], 1+chance(5)
		b := &both{ends: [2]*End{New(7, first, 1+chance(8), 1+chance(64), wait), New(7, first, 1+chance(8), 1+chance(64), wait)}}
		for step := range 300 {
			side := chance(2)
			switch chance(6) {
			case 0:
				b.send(side, fmt.Sprint(side, step))
			case 1:
				b.ends[side].Tick()
			case 2:
				b.came[1-side] = append(b.came[1-side], b.ends[side].Out()...)
			case 3: // one that another epoch's end sent
				b.take(t, side, api.Frame{Kind: 1, Epoch: 8, Seq: first + uint64(len(b.told[side])), Ack: first + 1, Body: "no"})
			default:
				if l := b.came[side]; len(l) > 0 {
					late := min(len(l), 1+chance(12)*chance(40))
					b.take(t, side, l[len(l)-1-chance(late)])
				}
			}
		}
		b.allComes(t, 300, wait)
	}
}

func TestEndsShareNothing(t *testing.T) { // P1: no call knows of anything but its object
	x, y := endOf(t, 2, 2), endOf(t, 2, 2)
	x.Send("a")
	x.Out()
	wantTake(t, x, data(10, 10, "p"), "p", true)
	wantNumbers(t, y, 0, 10, 10)
	wantAnswer(t, y.Out(), false, 0)
}

func TestNewMemory(t *testing.T) { // P1: what was told stays as it was, and shares nothing with what was handed in
	body := strings.Repeat("ab", 30)
	x := endOf(t, 2, 1, body)
	l := x.Out()
	x.Tick()
	again := x.Out()
	l[0] = api.Frame{}
	wantBodies(t, again, 10, 10, body)
	x.Tick()
	wantBodies(t, x.Out(), 10, 10, body)
	first := data(10, 10, body)
	told, _ := x.Take(first)
	x.Tick()
	last := x.Out()
	texts := []string{body, x.bodies[0], again[0].Body, last[0].Body, told}
	for i := range texts {
		for j := range i {
			if unsafe.StringData(texts[i]) == unsafe.StringData(texts[j]) {
				t.Errorf("texts %d and %d share memory", j, i)
			}
		}
	}
}

func TestWhatCameIsntKept(t *testing.T) { // what is kept is no more than is needed
	x := endOf(t, 8, 1, letters(5)...)
	x.Out()
	x.Take(answer(13))
	for i, b := range x.bodies[:cap(x.bodies)] {
		if i >= 2 && b != "" {
			t.Errorf("%q came, but is kept", b)
		}
	}
}
