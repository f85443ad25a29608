package pipe

import (
	"encoding/binary"
	"fmt"
	"hash/crc32"
	"math"
	"slices"
	"strings"
	"testing"
	"unsafe"

	"narthex/api"
	"narthex/link"
)

// plain is a pipe as the chapter tells it: chapter 9's ends, to each side a list of bytes on their way, and all that it was told.
type plain struct {
	ends     [2]*link.End
	room     int
	way, got [2][]string
}

func newPlain(epoch int, first uint64, window, queue, wait, room int) *plain {
	p := &plain{room: room}
	if room < 0 {
		p.room = 0
	}
	if room > 1000 {
		p.room = 1000
	}
	p.ends[0] = link.New(epoch, first, window, queue, wait)
	p.ends[1] = link.New(epoch, first, window, queue, wait)
	return p
}

func (p *plain) push(to int, b string) bool {
	if len(p.way[to]) >= p.room {
		return false
	}
	p.way[to] = append(p.way[to], b)
	return true
}

func (p *plain) goOut(side int) int {
	n := 0
	for _, f := range p.ends[side].Out() {
		if mayBe(f) && p.push(1-side, laid(f)) {
			n++
		}
	}
	return n
}

func (p *plain) look(side, k int) (string, bool) {
	if k < 0 || k >= len(p.way[side]) {
		return "", false
	}
	return p.way[side][k], true
}

func (p *plain) lose(side, k int) bool {
	_, ok := p.look(side, k)
	if ok {
		p.way[side] = append(append([]string(nil), p.way[side][:k]...), p.way[side][k+1:]...)
	}
	return ok
}

func (p *plain) double(side, k int) bool {
	b, ok := p.look(side, k)
	return ok && p.push(side, b)
}

// flip is of a bit from 0 up to 2^31: chapter 8's tests hold the others.
func (p *plain) flip(side, k, bit int) bool {
	b, ok := p.look(side, k)
	if ok {
		turned := []byte(b)
		turned[bit/8%len(b)] ^= 1 << (bit % 8)
		p.way[side][k] = string(turned)
	}
	return ok
}

func (p *plain) come(side, k int) (string, bool) {
	b, ok := p.look(side, k)
	p.lose(side, k)
	f, isFrame := read(b)
	if !ok || !isFrame {
		return "", false
	}
	s, told := p.ends[side].Take(f)
	if told {
		p.got[side] = append(p.got[side], s)
	}
	return s, told
}

// mayBe is whether a frame may be, as chapter 6 tells it.
func mayBe(f api.Frame) bool {
	kind := f.Kind == 1 || f.Kind == 2 && f.Body == ""
	return kind && f.Epoch >= 0 && f.Epoch <= 65535 && len(f.Body) <= 64
}

// laid is a frame's bytes, as chapter 6 tells them.
func laid(f api.Frame) string {
	b := []byte{'N', 1, byte(f.Kind)}
	b = binary.BigEndian.AppendUint16(b, uint16(f.Epoch))
	b = binary.BigEndian.AppendUint64(b, f.Seq)
	b = binary.BigEndian.AppendUint64(b, f.Ack)
	b = binary.BigEndian.AppendUint16(b, uint16(len(f.Body)))
	b = append(b, f.Body...)
	return string(binary.BigEndian.AppendUint32(b, crc32.ChecksumIEEE(b)))
}

// read is the frame that bytes are.
func read(s string) (api.Frame, bool) {
	if len(s) < 27 {
		return api.Frame{}, false
	}
	f := api.Frame{
		Kind:  api.FrameKind(s[2]),
		Epoch: int(binary.BigEndian.Uint16([]byte(s[3:]))),
		Seq:   binary.BigEndian.Uint64([]byte(s[5:])),
		Ack:   binary.BigEndian.Uint64([]byte(s[13:])),
		Body:  s[23 : len(s)-4],
	}
	return f, mayBe(f) && laid(f) == s
}

// pair is a pipe and a plain one, with which the same is done.
type pair struct {
	x *Pipe
	p *plain
}

func newPair(first uint64, window, queue, wait, room int) pair {
	return pair{New(7, first, window, queue, wait, room), newPlain(7, first, window, queue, wait, room)}
}

// Each of these does one thing with both, and ends the test if they don't answer the same.

func (c pair) send(t *testing.T, side int, b string) {
	t.Helper()
	if got, want := c.x.Send(side, b), c.p.ends[side].Send(b); got != want {
		t.Fatalf("side %d: send of %q: got %d, want %d", side, b, got, want)
	}
}

func (c pair) goOut(t *testing.T, side int) {
	t.Helper()
	if got, want := c.x.Go(side), c.p.goOut(side); got != want {
		t.Fatalf("side %d: go: got %d, want %d", side, got, want)
	}
}

func (c pair) tick(side int) {
	c.x.Tick(side)
	c.p.ends[side].Tick()
}

func (c pair) come(t *testing.T, side, k int) {
	t.Helper()
	got, ok := c.x.Come(side, k)
	want, wantOK := c.p.come(side, k)
	if got != want || ok != wantOK {
		t.Fatalf("side %d: come of %d: got %q, %v, want %q, %v", side, k, got, ok, want, wantOK)
	}
}

func (c pair) lose(t *testing.T, side, k int) {
	t.Helper()
	if got, want := c.x.Lose(side, k), c.p.lose(side, k); got != want {
		t.Fatalf("side %d: lose of %d: got %v, want %v", side, k, got, want)
	}
}

func (c pair) double(t *testing.T, side, k int) {
	t.Helper()
	if got, want := c.x.Double(side, k), c.p.double(side, k); got != want {
		t.Fatalf("side %d: double of %d: got %v, want %v", side, k, got, want)
	}
}

func (c pair) flip(t *testing.T, side, k, bit int) {
	t.Helper()
	if got, want := c.x.Flip(side, k, bit), c.p.flip(side, k, bit); got != want {
		t.Fatalf("side %d: flip of %d, bit %d: got %v, want %v", side, k, bit, got, want)
	}
}

func (c pair) wantSame(t *testing.T) {
	t.Helper()
	for side := range 2 {
		wantWay(t, c.x, side, c.p.way[side]...)
		wantGot(t, c.x, side, c.p.got[side]...)
		wantWaiting(t, c.x, side, c.p.ends[side].Waiting())
	}
}

// wantSameLater goes on with both, so that all is seen of what isn't told: what is out, what is owed, the age.
func (c pair) wantSameLater(t *testing.T, ticks int) {
	t.Helper()
	for range ticks {
		for side := range 2 {
			for len(c.p.way[side]) > 0 {
				c.lose(t, side, 0)
			}
			c.goOut(t, side)
			c.tick(side)
		}
		c.wantSame(t)
	}
}

// wantWay holds what is on its way to a side against rows of bytes.
func wantWay(t *testing.T, p *Pipe, side int, want ...string) {
	t.Helper()
	for k := -1; k <= len(want); k++ {
		there := k >= 0 && k < len(want)
		if b, ok := p.Look(side, k); ok != there || there && b != want[k] || !there && b != "" {
			t.Fatalf("side %d: look at %d: got %q, %v, want %q", side, k, b, ok, want)
		}
	}
}

func wantGot(t *testing.T, p *Pipe, side int, want ...string) {
	t.Helper()
	if got := p.Got(side); !slices.Equal(got, want) {
		t.Fatalf("side %d: got %q, want %q", side, got, want)
	}
}

func wantWaiting(t *testing.T, p *Pipe, side, want int) {
	t.Helper()
	if n := p.Waiting(side); n != want {
		t.Fatalf("side %d: %d wait, want %d", side, n, want)
	}
}

func wantGo(t *testing.T, p *Pipe, side, want int) {
	t.Helper()
	if n := p.Go(side); n != want {
		t.Fatalf("side %d: %d go, want %d", side, n, want)
	}
}

func wantCome(t *testing.T, p *Pipe, side, k int, want string, wantOK bool) {
	t.Helper()
	if s, ok := p.Come(side, k); s != want || ok != wantOK {
		t.Fatalf("side %d: come of %d: got %q, %v, want %q, %v", side, k, s, ok, want, wantOK)
	}
}

// pipeOf is a pipe of epoch 7 and first number 10, on whose side some bodies wait; they go again behind 3 ticks.
func pipeOf(t *testing.T, side int, bodies ...string) *Pipe {
	t.Helper()
	p := New(7, 10, 8, 64, 3, 20)
	for _, b := range bodies {
		if e := p.Send(side, b); e != 0 {
			t.Fatalf("side %d: send of %q: %d", side, b, e)
		}
	}
	return p
}

// loseAll loses all that is on its way to a side.
func loseAll(t *testing.T, p *Pipe, side int) {
	t.Helper()
	for range api.MaxRoom {
		if !p.Lose(side, 0) {
			break
		}
	}
	wantWay(t, p, side)
}

func data(seq, ack uint64, b string) string {
	return laid(api.Frame{Kind: 1, Epoch: 7, Seq: seq, Ack: ack, Body: b})
}

func answer(ack uint64) string { return laid(api.Frame{Kind: 2, Epoch: 7, Ack: ack}) }

// turnInto turns bits of what is on its way, till it is other bytes, as many as there are.
func turnInto(t *testing.T, p *Pipe, side, k int, want string) {
	t.Helper()
	b, _ := p.Look(side, k)
	if len(b) != len(want) {
		t.Fatalf("%q can't be turned into %q", b, want)
	}
	for bit := range 8 * len(b) {
		if (b[bit/8]^want[bit/8])>>(bit%8)&1 == 1 {
			p.Flip(side, k, bit)
		}
	}
	if got, _ := p.Look(side, k); got != want {
		t.Fatalf("%q is turned into %q, want %q", b, got, want)
	}
}

// someFirsts are first numbers, at the edges too.
func someFirsts() []uint64 {
	return []uint64{0, 1, 10, math.MaxInt64, 1 << 63, math.MaxUint64 - 1, math.MaxUint64}
}

// farNumbers are no sides, and no places of anything.
func farNumbers() []int {
	return []int{-1, -2, -3, 64, 65, 1000, 1<<32 + 1, 1 << 32, math.MaxInt64, math.MaxInt64 - 1, math.MinInt64, math.MinInt64 + 1, math.MinInt64 + 2}
}

// chances tells numbers below others, always the same ones.
func chances(seed uint64) func(below int) int {
	return func(below int) int {
		seed = seed*6364136223846793005 + 1442695040888963407
		return int(seed>>33) % below
	}
}

func TestNewHasNothing(t *testing.T) { // P10.1
	for _, first := range someFirsts() {
		for _, room := range []int{math.MinInt64, 0, 1, 5, math.MaxInt64} {
			p := New(7, first, 3, 3, 2, room)
			for range 5 {
				for side := range 2 {
					wantWay(t, p, side)
					wantGot(t, p, side)
					wantWaiting(t, p, side, 0)
					wantGo(t, p, side, 0)
					wantCome(t, p, side, 0, "", false)
					p.Tick(side)
				}
			}
		}
	}
}

func TestEpochAndFirstNumber(t *testing.T) { // P10.1, P10.2: of both sides; frames that may not be aren't sent
	for _, epoch := range []int{0, 1, 7, 256, 65534, 65535, 65536, 65543, -1, -65536, math.MaxInt64, math.MinInt64} {
		for _, first := range someFirsts() {
			p := New(epoch, first, 4, 4, 2, 4)
			for side := range 2 {
				p.Send(side, "a")
				p.Send(side, "b")
				var want []string
				for i, b := range []string{"a", "b"} {
					f := api.Frame{Kind: 1, Epoch: epoch, Seq: first + uint64(i), Ack: first, Body: b}
					if mayBe(f) {
						want = append(want, laid(f))
					}
				}
				wantGo(t, p, side, len(want))
				wantWay(t, p, 1-side, want...)
				wantWay(t, p, side)
				loseAll(t, p, 1-side)
				wantGo(t, p, side, 0) // they are out, whether they may be or not
				p.Tick(side)
				wantGo(t, p, side, 0)
				p.Tick(side)
				wantGo(t, p, side, len(want))
				wantWaiting(t, p, side, 2)
				loseAll(t, p, 1-side)
			}
		}
	}
}

func TestWindow(t *testing.T) { // P10.1
	for window, want := range map[int]int{math.MinInt64: 1, 0: 1, 1: 1, 2: 2, 7: 7, 8: 8, 9: 8, math.MaxInt64: 8} {
		for side := range 2 {
			p := New(7, 10, window, 64, 50, 40)
			for range 20 {
				p.Send(side, "a")
			}
			wantGo(t, p, side, want)
			wantGo(t, p, side, 0)
			wantWaiting(t, p, side, 20)
			wantWaiting(t, p, 1-side, 0)
		}
	}
}

func TestQueue(t *testing.T) { // P10.1, P10.2
	for queue, want := range map[int]int{math.MinInt64: 0, -1: 0, 0: 0, 1: 1, 2: 2, 63: 63, 64: 64, 65: 64, math.MaxInt64: 64} {
		for side := range 2 {
			p := New(7, 10, 3, queue, 50, 40)
			for i := range want + 2 {
				wantE := api.OK
				if i >= want {
					wantE = api.ErrLinkFull
				}
				if e := p.Send(side, "a"); e != wantE {
					t.Fatalf("queue %d: send %d: got %d, want %d", queue, i, e, wantE)
				}
			}
			wantWaiting(t, p, side, want)
			wantWaiting(t, p, 1-side, 0)
		}
	}
}

func TestWait(t *testing.T) { // P10.1, P10.2: the other side's time is another one
	for wait, want := range map[int]int{math.MinInt64: 1, 0: 1, 1: 1, 2: 2, 3: 3, 99: 99, 100: 100, 101: 100, math.MaxInt64: 100} {
		for side := range 2 {
			p := New(7, 10, 3, 20, wait, 40)
			p.Send(side, "a")
			p.Send(side, "b")
			for range 3 {
				wantGo(t, p, side, 2)
				for range want {
					wantGo(t, p, side, 0)
					p.Tick(side)
					p.Tick(1 - side)
				}
			}
			wantGo(t, p, side, 2)
			for range 2 * want {
				p.Tick(1 - side)
			}
			wantGo(t, p, side, 0)
		}
	}
}

func TestRoom(t *testing.T) { // P10.1, P10.2: each way has its own
	for room, want := range map[int]int{math.MinInt64: 0, -1: 0, 0: 0, 1: 1, 2: 2, 5: 5, 999: 999, 1000: 1000, 1001: 1000, math.MaxInt64: 1000} {
		p := New(7, 10, 2, 64, 1, room)
		for side := range 2 {
			p.Send(side, "a")
			p.Send(side, "b")
			var way []string
			for len(way) < want {
				wantGo(t, p, side, min(2, want-len(way)))
				way = append(way, data(10, 10, "a"), data(11, 10, "b"))
				way = way[:min(len(way), want)]
				p.Tick(side)
			}
			wantGo(t, p, side, 0)
			if want > 0 && p.Double(1-side, 0) {
				t.Errorf("room %d: one more is doubled", room)
			}
			wantWay(t, p, 1-side, way...)
			wantWaiting(t, p, side, 2)
		}
	}
}

func TestNoSuchSide(t *testing.T) { // P10.1: whatever is asked of it, and nothing happens
	for _, side := range append(farNumbers(), 2, 3) {
		c := newPair(10, 2, 4, 3, 4)
		for at := range 2 {
			for _, b := range []string{"a", "b", "c"} {
				c.send(t, at, b)
			}
			c.goOut(t, at)
			c.come(t, 1-at, 0)
			c.tick(at)
		}
		for _, b := range []string{"", "x", strings.Repeat("x", 65)} {
			if e := c.x.Send(side, b); e != api.ErrPipeSide {
				t.Errorf("side %d: send of %q: %d", side, b, e)
			}
		}
		wantGo(t, c.x, side, 0)
		wantGot(t, c.x, side)
		wantWaiting(t, c.x, side, 0)
		for _, k := range append(farNumbers(), 0, 1) {
			c.x.Tick(side)
			wantCome(t, c.x, side, k, "", false)
			b, ok := c.x.Look(side, k)
			if b != "" || ok || c.x.Lose(side, k) || c.x.Double(side, k) || c.x.Flip(side, k, 0) {
				t.Errorf("side %d, place %d", side, k)
			}
		}
		c.wantSame(t)
		c.wantSameLater(t, 7)
	}
}

func TestNoSuchPlace(t *testing.T) { // P10.3: and nothing happens
	for _, k := range append(farNumbers(), 2, 3) {
		for side := range 2 {
			p := pipeOf(t, 1-side, "a", "b")
			wantGo(t, p, 1-side, 2)
			wantCome(t, p, side, k, "", false)
			b, ok := p.Look(side, k)
			if b != "" || ok || p.Lose(side, k) || p.Double(side, k) || p.Flip(side, k, 0) {
				t.Errorf("side %d, place %d", side, k)
			}
			wantWay(t, p, side, data(10, 10, "a"), data(11, 10, "b"))
			wantGot(t, p, side)
			wantGo(t, p, side, 0)
		}
	}
}

func TestSend(t *testing.T) { // P10.2
	for side := range 2 {
		p := New(7, 10, 8, 4, 2, 20)
		for _, size := range []int{0, 1, 63, 64, 65, 1 << 20} {
			want := api.OK
			if size > 64 {
				want = api.ErrLinkBody
			}
			if e := p.Send(side, strings.Repeat("a", size)); e != want {
				t.Errorf("side %d: %d bytes: got %d, want %d", side, size, e, want)
			}
		}
		if e := p.Send(side, "b"); e != api.ErrLinkFull {
			t.Errorf("side %d: one too many: %d", side, e)
		}
		if e := p.Send(side, strings.Repeat("b", 65)); e != api.ErrLinkBody { // the first one named
			t.Errorf("side %d: one too many, too long: %d", side, e)
		}
		wantGo(t, p, side, 4)
		wantWay(t, p, 1-side, data(10, 10, ""), data(11, 10, "a"), data(12, 10, strings.Repeat("a", 63)), data(13, 10, strings.Repeat("a", 64)))
	}
}

func TestGoCountsWhatIsntLost(t *testing.T) { // P10.2: those that are lost are out, too
	for side := range 2 {
		p := New(7, 10, 4, 8, 2, 3)
		for _, b := range []string{"a", "b", "c", "d", "e"} {
			p.Send(side, b)
		}
		wantGo(t, p, side, 3)
		wantWay(t, p, 1-side, data(10, 10, "a"), data(11, 10, "b"), data(12, 10, "c"))
		wantGo(t, p, side, 0)
		p.Lose(1-side, 0)
		p.Lose(1-side, 0)
		wantGo(t, p, side, 0)
		p.Tick(side)
		p.Tick(side)
		wantGo(t, p, side, 2)
		wantWay(t, p, 1-side, data(12, 10, "c"), data(10, 10, "a"), data(11, 10, "b"))
	}
}

func TestAnswersGoToo(t *testing.T) { // P10.2, P10.3
	for side := range 2 {
		p := pipeOf(t, side, "a", "b")
		wantGo(t, p, side, 2)
		wantCome(t, p, 1-side, 0, "a", true)
		wantGo(t, p, 1-side, 1)
		wantGo(t, p, 1-side, 0)
		wantWay(t, p, side, answer(11))
		wantWaiting(t, p, side, 2)
		wantCome(t, p, side, 0, "", false)
		wantWaiting(t, p, side, 1)
		wantGot(t, p, side)
		p.Send(1-side, "p")
		wantCome(t, p, 1-side, 0, "b", true)
		wantGo(t, p, 1-side, 1)
		wantWay(t, p, side, data(10, 12, "p")) // that is the answer
		wantCome(t, p, side, 0, "p", true)
		wantWaiting(t, p, side, 0)
		wantWaiting(t, p, 1-side, 1)
	}
}

func TestToThisSideNotFromIt(t *testing.T) { // P10.3
	for side := range 2 {
		p := pipeOf(t, 1-side, "ab", "c")
		wantGo(t, p, 1-side, 2)
		for k := range 2 {
			_, ok := p.Look(1-side, k)
			if ok || p.Double(1-side, k) || p.Flip(1-side, k, 0) || p.Lose(1-side, k) {
				t.Errorf("side %d: place %d the other way round", side, k)
			}
			wantCome(t, p, 1-side, k, "", false)
		}
		a, c := data(10, 10, "ab"), data(11, 10, "c")
		wantWay(t, p, side, a, c)
		if !p.Double(side, 0) || !p.Flip(side, 0, 8*23+1) {
			t.Errorf("side %d: double and flip", side)
		}
		turned := a[:23] + "c" + a[24:]
		wantWay(t, p, side, turned, c, a)
		if !p.Lose(side, 1) {
			t.Errorf("side %d: lose", side)
		}
		wantWay(t, p, side, turned, a)
		wantWay(t, p, 1-side)
		wantGot(t, p, side)
		wantGo(t, p, side, 0) // what is lost isn't answered
	}
}

func TestFlipOfBits(t *testing.T) { // P10.3: chapter 8's bits
	const bits = 8 * 28
	a := data(10, 10, "a")
	for bit, at := range map[int]int{0: 0, 1: 1, 8: 8, -8: 8, 15: 15, bits - 1: bits - 1, bits: 0, -bits - 9: 9, 77: 77, math.MinInt64: 0, math.MaxInt64: math.MaxInt64 % bits} {
		p := pipeOf(t, 0, "a")
		wantGo(t, p, 0, 1)
		if !p.Flip(1, 0, bit) {
			t.Errorf("bit %d", bit)
		}
		want := []byte(a)
		want[at/8] ^= 1 << (at % 8)
		wantWay(t, p, 1, string(want))
	}
}

func TestComeTakesWhatIsThere(t *testing.T) { // P10.3: it is on its way no more, whether it tells anything or not
	for side := range 2 {
		p := pipeOf(t, 1-side, "a", "b", "c")
		wantGo(t, p, 1-side, 3)
		a, b, c := data(10, 10, "a"), data(11, 10, "b"), data(12, 10, "c")
		p.Double(side, 0)
		wantCome(t, p, side, 1, "", false) // it isn't the next one
		wantWay(t, p, side, a, c, a)
		wantCome(t, p, side, 2, "a", true)
		wantWay(t, p, side, a, c)
		wantCome(t, p, side, 0, "", false) // it was told
		wantWay(t, p, side, c)
		wantCome(t, p, side, 0, "", false)
		wantWay(t, p, side)
		wantGot(t, p, side, "a")
		wantGo(t, p, side, 1)
		wantCome(t, p, 1-side, 0, "", false)
		for range 3 {
			p.Tick(1 - side)
		}
		wantGo(t, p, 1-side, 2)
		wantWay(t, p, side, b, c)
		wantCome(t, p, side, 0, "b", true)
		wantCome(t, p, side, 0, "c", true)
		wantGot(t, p, side, "a", "b", "c")
		wantGot(t, p, 1-side)
	}
}

func TestEmptyBodiesAreToldToo(t *testing.T) { // P10.3
	p := pipeOf(t, 0, "", "a", "")
	wantGo(t, p, 0, 3)
	for _, b := range []string{"", "a", ""} {
		wantCome(t, p, 1, 0, b, true)
	}
	wantCome(t, p, 1, 0, "", false)
	wantGot(t, p, 1, "", "a", "")
}

func TestTurnedBytesAreNoFrame(t *testing.T) { // P10.3: each bit: nothing is told, nor owed, and it is gone
	for side := range 2 {
		for bit := range 8 * 29 {
			p := pipeOf(t, 1-side, "ab")
			wantGo(t, p, 1-side, 1)
			p.Flip(side, 0, bit)
			wantCome(t, p, side, 0, "", false)
			wantWay(t, p, side)
			wantGot(t, p, side)
			wantGo(t, p, side, 0)
		}
	}
}

func TestTurnedAnswersAreNone(t *testing.T) { // P10.3
	for side := range 2 {
		for bit := range 8 * 27 {
			p := pipeOf(t, side, "a")
			wantGo(t, p, side, 1)
			wantCome(t, p, 1-side, 0, "a", true)
			wantGo(t, p, 1-side, 1)
			p.Flip(side, 0, bit)
			wantCome(t, p, side, 0, "", false)
			wantWaiting(t, p, side, 1)
		}
	}
}

func TestTurnedAndTurnedAgain(t *testing.T) { // P10.3: what comes counts, not what was done with it
	p := pipeOf(t, 0, "ab")
	wantGo(t, p, 0, 1)
	for range 2 {
		for _, bit := range []int{0, 50, 200} {
			p.Flip(1, 0, bit)
		}
	}
	wantCome(t, p, 1, 0, "ab", true)
}

func TestTurnedSoThatTheSumsDontTell(t *testing.T) { // P10.3: what is a frame is taken as chapter 9's end takes it
	for _, x := range []struct {
		name string
		into api.Frame
		told string
		ok   bool
		owed int
		left int
	}{
		{"another body", api.Frame{Kind: 1, Epoch: 7, Seq: 10, Ack: 10, Body: "xy"}, "xy", true, 1, 1},
		{"another epoch", api.Frame{Kind: 1, Epoch: 6, Seq: 10, Ack: 11, Body: "ab"}, "", false, 0, 1},
		{"another number", api.Frame{Kind: 1, Epoch: 7, Seq: 11, Ack: 10, Body: "ab"}, "", false, 1, 1},
		{"another answer", api.Frame{Kind: 1, Epoch: 7, Seq: 10, Ack: 11, Body: "ab"}, "ab", true, 1, 0},
		{"an answer with a body", api.Frame{Kind: 2, Epoch: 7, Seq: 10, Ack: 11, Body: "ab"}, "", false, 0, 1},
		{"another kind", api.Frame{Kind: 3, Epoch: 7, Seq: 10, Ack: 11, Body: "ab"}, "", false, 0, 1},
	} {
		for side := range 2 {
			p := pipeOf(t, 1-side, "ab")
			p.Send(side, "z")
			wantGo(t, p, side, 1)
			wantGo(t, p, 1-side, 1)
			turnInto(t, p, side, 0, laid(x.into))
			wantCome(t, p, side, 0, x.told, x.ok)
			wantWaiting(t, p, side, x.left)
			if n := p.Go(side); n != x.owed {
				t.Errorf("%s: %d go, want %d", x.name, n, x.owed)
			}
			var want []string
			if x.ok {
				want = []string{x.told}
			}
			wantGot(t, p, side, want...)
		}
	}
}

func TestExample(t *testing.T) { // P10.2, P10.3
	for _, wait := range []int{1, 2, 5, 100} {
		p := New(1, 0, 3, 5, wait, 4)
		p.Send(0, "a")
		wantGo(t, p, 0, 1)
		p.Flip(1, 0, 100)
		wantCome(t, p, 1, 0, "", false)
		for range wait {
			wantGo(t, p, 0, 0)
			p.Tick(0)
		}
		wantGo(t, p, 0, 1)
		wantCome(t, p, 1, 0, "a", true)
	}
}

// shortActs are what may be done with a pair in short rows.
func shortActs() []func(t *testing.T, c pair) {
	return []func(t *testing.T, c pair){
		func(t *testing.T, c pair) { c.send(t, 0, "x") },
		func(t *testing.T, c pair) { c.send(t, 1, "") },
		func(t *testing.T, c pair) { c.goOut(t, 0) },
		func(t *testing.T, c pair) { c.goOut(t, 1) },
		func(t *testing.T, c pair) { c.tick(0) },
		func(t *testing.T, c pair) { c.come(t, 1, 0) },
		func(t *testing.T, c pair) { c.come(t, 1, 1) },
		func(t *testing.T, c pair) { c.come(t, 0, 0) },
		func(t *testing.T, c pair) { c.lose(t, 1, 0) },
		func(t *testing.T, c pair) { c.double(t, 1, 0) },
		func(t *testing.T, c pair) { c.flip(t, 1, 0, 190) },
	}
}

func TestAllShortRowsOfActs(t *testing.T) { // P10.1, P10.2, P10.3
	const long = 4
	acts := shortActs()
	rows := 1
	for range long {
		rows *= len(acts)
	}
	for _, like := range [][4]int{{2, 4, 1, 3}, {1, 3, 2, 2}} {
		for row := range rows {
			c := newPair(math.MaxUint64, like[0], like[1], like[2], like[3])
			c.send(t, 0, "a")
			c.send(t, 0, "b")
			c.goOut(t, 0)
			for left, i := row, 0; i < long; left, i = left/len(acts), i+1 {
				acts[left%len(acts)](t, c)
				c.wantSame(t)
			}
			c.wantSameLater(t, like[2]+1)
		}
	}
}

func TestAsAPlainPipe(t *testing.T) { // P10.1, P10.2, P10.3: longer rows, here and there
	chance := chances(10)
	firsts := someFirsts()
	for range 500 {
		c := newPair(firsts[chance(len(firsts))], chance(10), chance(70), chance(7), chance(20)-1)
		for step := range 250 {
			side, k := chance(2), chance(8)*chance(2)-chance(2)
			switch chance(9) {
			case 0, 1:
				c.send(t, side, strings.Repeat(string(rune('a'+chance(26))), chance(67)))
			case 2, 3:
				c.goOut(t, side)
			case 4:
				c.tick(side)
			case 5:
				c.lose(t, side, k)
			case 6:
				c.double(t, side, k)
			case 7:
				c.flip(t, side, k, chance(8*27))
			default:
				c.come(t, side, k)
			}
			if step%5 == 4 {
				c.wantSame(t)
			}
		}
		c.wantSameLater(t, 8)
	}
}

// talk is a pipe, and what each side sent.
type talk struct {
	p    *Pipe
	sent [2][]string
}

func (c *talk) send(side int, b string) {
	if c.p.Send(side, b) == api.OK {
		c.sent[side] = append(c.sent[side], b)
	}
}

// come lets something come, and ends the test if what that side was told is no beginning of what the other one sent.
func (c *talk) come(t *testing.T, side, k int) {
	t.Helper()
	ahead := c.p.Got(side)
	s, ok := c.p.Come(side, k)
	if ok {
		ahead = append(ahead, s)
	}
	wantGot(t, c.p, side, ahead...)
	other := c.sent[1-side]
	if len(ahead) > len(other) || !slices.Equal(ahead, other[:len(ahead)]) {
		t.Fatalf("side %d is told %q, of %q", side, ahead, other)
	}
}

// allComes lets all that is sent come, oldest first, in so many rounds, each with some ticks.
func (c *talk) allComes(t *testing.T, rounds, ticks int) {
	t.Helper()
	for range rounds {
		for side := range 2 {
			c.p.Go(side)
			c.allComesTo(t, 1-side)
			for range ticks {
				c.p.Tick(side)
			}
		}
		if c.p.Waiting(0)+c.p.Waiting(1) == 0 {
			break
		}
	}
	for side := range 2 {
		wantWaiting(t, c.p, side, 0)
		wantGot(t, c.p, side, c.sent[1-side]...)
	}
}

// allComesTo lets all that is on its way to a side come there, oldest first.
func (c *talk) allComesTo(t *testing.T, side int) {
	t.Helper()
	for range api.MaxRoom {
		if _, there := c.p.Look(side, 0); !there {
			break
		}
		c.come(t, side, 0)
	}
	wantWay(t, c.p, side)
}

func TestInOrderAllComes(t *testing.T) { // P10.4: as long as there is room, without time too
	for _, first := range someFirsts() {
		for window := 1; window <= 8; window++ {
			for _, many := range [][2]int{{1, 0}, {0, 1}, {5, 5}, {64, 0}, {0, 64}, {64, 64}} {
				for _, like := range [][2]int{{8, 0}, {1, 2}, {2, 2}} { // room, and ticks
					c := &talk{p: New(7, first, window, 64, 2, like[0])}
					for side := range 2 {
						for i := range many[side] {
							c.send(side, fmt.Sprint(side, i))
						}
					}
					c.allComes(t, 200, like[1])
				}
			}
		}
	}
}

func TestWhateverTheNetDoes(t *testing.T) { // P10.4: lost, doubled, turned round, and bits of it too
	chance := chances(104)
	firsts := someFirsts()
	for round := range 600 {
		wait := 1 + chance(5)
		c := &talk{p: New(round, firsts[round%len(firsts)], 1+chance(8), 1+chance(64), wait, 1+chance(20))}
		for step := range 300 {
			side, k := chance(2), chance(1+chance(12))
			switch chance(10) {
			case 0, 1:
				c.send(side, fmt.Sprint(side, step))
			case 2, 3:
				c.p.Go(side)
			case 4:
				c.p.Tick(side)
			case 5:
				c.p.Lose(side, k)
			case 6:
				c.p.Double(side, k)
			case 7:
				c.p.Flip(side, k, chance(8*91))
			default:
				c.come(t, side, k)
			}
		}
		c.allComes(t, 300, wait)
	}
}

func TestPipesShareNothing(t *testing.T) { // P1: no call knows of anything but its object
	x, y := pipeOf(t, 0, "a"), pipeOf(t, 0)
	wantWaiting(t, y, 0, 0)
	wantGo(t, x, 0, 1)
	wantWay(t, y, 1)
	wantCome(t, x, 1, 0, "a", true)
	wantGot(t, y, 1)
	wantGo(t, y, 1, 0)
}

func TestGotIsNewMemory(t *testing.T) { // P1
	p := pipeOf(t, 0, "a", "b", "c")
	wantGo(t, p, 0, 3)
	wantCome(t, p, 1, 0, "a", true)
	wantCome(t, p, 1, 0, "b", true)
	got := p.Got(1)
	got[0] = "x"
	_ = append(got[:1], "y", "z", "w")
	got = append(p.Got(1), "v")
	wantGot(t, p, 1, "a", "b")
	wantCome(t, p, 1, 0, "c", true)
	wantGot(t, p, 1, "a", "b", "c")
	if !slices.Equal(got, []string{"a", "b", "v"}) {
		t.Errorf("what was told ahead is %q now", got)
	}
}

func TestTextsAreNewMemory(t *testing.T) { // P1: what was told stays as it was, and shares nothing with what was handed in
	body := strings.Repeat("ab", 30)
	p := pipeOf(t, 0, body)
	wantGo(t, p, 0, 1)
	look, _ := p.Look(1, 0)
	p.Flip(1, 0, 0)
	again, _ := p.Look(1, 0)
	p.Flip(1, 0, 0)
	told, _ := p.Come(1, 0)
	if look != data(10, 10, body) || again != "O"+look[1:] || told != body {
		t.Errorf("%q, %q, %q", look, again, told)
	}
	texts := []string{body, look, again, told, p.got[1][0], p.Got(1)[0], p.Got(1)[0]}
	for i := range texts {
		for j := range i {
			if unsafe.StringData(texts[i]) == unsafe.StringData(texts[j]) {
				t.Errorf("texts %d and %d share memory", j, i)
			}
		}
	}
}
