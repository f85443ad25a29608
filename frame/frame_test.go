package frame

import (
	"encoding/binary"
	"errors"
	"hash/crc32"
	"math"
	"strings"
	"testing"
	"unsafe"

	"narthex/api"
)

// summed is bytes with their sum behind them.
func summed(s string) string {
	return string(binary.BigEndian.AppendUint32([]byte(s), crc32.ChecksumIEEE([]byte(s))))
}

// laid is the bytes of a frame, one part after the other, whether it may be or not.
func laid(kind, epoch int, seq, ack uint64, length int, body string) string {
	b := []byte{'N', 1, byte(kind)}
	b = binary.BigEndian.AppendUint16(b, uint16(epoch))
	b = binary.BigEndian.AppendUint64(b, seq)
	b = binary.BigEndian.AppendUint64(b, ack)
	b = binary.BigEndian.AppendUint16(b, uint16(length))
	return summed(string(b) + body)
}

// plainRight is whether a frame may be, as the chapter tells it.
func plainRight(f api.Frame) bool {
	switch f.Kind {
	case 1:
		return 0 <= f.Epoch && f.Epoch < 65536 && len(f.Body) < 65
	case 2:
		return 0 <= f.Epoch && f.Epoch < 65536 && len(f.Body) == 0
	}
	return false
}

// plainWhy is what is wrong with bytes, as the chapter tells it.
func plainWhy(s string) (int, api.Errno) {
	n := len(s)
	switch {
	case n < 27:
		return n, 61
	case s[0] != 'N':
		return 0, 62
	case s[1] != 1:
		return 1, 63
	case int(binary.BigEndian.Uint16([]byte(s[21:23]))) != n-27:
		return 21, 64
	case binary.BigEndian.Uint32([]byte(s[n-4:])) != crc32.ChecksumIEEE([]byte(s[:n-4])):
		return n - 4, 65
	case s[2] == 0, s[2] > 2, s[2] == 2 && n > 27, n > 91:
		return 2, 66
	}
	return 0, 0
}

// plainGet is the frame that stands in bytes that are one.
func plainGet(s string) api.Frame {
	b := []byte(s)
	return api.Frame{
		Kind:  api.FrameKind(b[2]),
		Epoch: int(binary.BigEndian.Uint16(b[3:])),
		Seq:   binary.BigEndian.Uint64(b[5:]),
		Ack:   binary.BigEndian.Uint64(b[13:]),
		Body:  string(b[23 : len(b)-4]),
	}
}

// chances tells numbers below others, always the same ones.
func chances() func(below int) int {
	seed := uint64(6)
	return func(below int) int {
		seed = seed*6364136223846793005 + 1442695040888963407
		return int(seed>>33) % below
	}
}

// strewn are so many bytes of all kinds.
func strewn(count int) string {
	chance := chances()
	b := make([]byte, count)
	for i := range b {
		b[i] = byte(chance(256))
	}
	return string(b)
}

func someNumbers() []uint64 {
	l := []uint64{0, 1, 2, 255, 256, 65535, 65536, 0x0102030405060708, 0x80ff7f0080ff7f01, math.MaxInt64, math.MaxInt64 + 1, math.MaxUint64 - 1, math.MaxUint64}
	for bit := range 64 {
		l = append(l, 1<<bit)
	}
	return l
}

// someBodies are bodies at the edges, too long ones, and bytes that are no text.
func someBodies() []string {
	l := []string{"", "a", "hi", "N", "N\x01\x01", "\x00", "\x00\x00\x00\x00", "\xff", "é", "日本語", "\xed\xa0\x80", strings.Repeat("\xff", 64), strings.Repeat("\x00", 65)}
	for _, long := range []int{2, 26, 27, 28, 63, 64, 65, 66, 255, 256, 1000, 65535, 65536} {
		l = append(l, strewn(long))
	}
	return append(l, summed("a"), laid(1, 0, 0, 0, 0, ""))
}

// someFrames are frames of all kinds that may be, and that may not.
func someFrames() []api.Frame {
	var l []api.Frame
	kinds := []api.FrameKind{0, 1, 2, 3, -1, -2, 255, 256, 257, 258, 1 << 32, 1<<32 + 1, 1<<32 + 2, math.MaxInt64, math.MinInt64, math.MinInt64 + 1}
	epochs := []int{0, 1, 2, 255, 256, 258, 32767, 32768, 65534, 65535, 65536, 65537, 131072, -1, -65535, -65536, 1 << 32, math.MaxInt64, math.MinInt64}
	for _, kind := range kinds {
		for _, epoch := range epochs {
			for _, body := range someBodies() {
				l = append(l, api.Frame{Kind: kind, Epoch: epoch, Seq: 3, Ack: 1 << 40, Body: body})
			}
		}
	}
	for _, seq := range someNumbers() {
		for _, ack := range someNumbers() {
			l = append(l, api.Frame{Kind: 1, Epoch: 7, Seq: seq, Ack: ack, Body: "hi"}, api.Frame{Kind: 2, Epoch: 65535, Seq: seq, Ack: ack})
		}
	}
	return l
}

// goodFrames are those of some frames that may be.
func goodFrames() []api.Frame {
	var l []api.Frame
	for _, f := range someFrames() {
		if plainRight(f) {
			l = append(l, f)
		}
	}
	return l
}

func wantWhy(t *testing.T, s string, wantAt int, want api.Errno) {
	t.Helper()
	if at, e := Why(s); at != wantAt || e != want {
		t.Errorf("why of %q: got %d, %d, want %d, %d", s, at, e, wantAt, want)
	}
	if want == 0 {
		wantGet(t, s, plainGet(s), 0)
	} else {
		wantGet(t, s, api.Frame{}, want)
	}
}

func wantGet(t *testing.T, s string, want api.Frame, wantE api.Errno) {
	t.Helper()
	if f, e := Get(s); f != want || e != wantE {
		t.Errorf("get of %q: got %v, %d, want %v, %d", s, f, e, want, wantE)
	}
}

func TestErrorsOfThisLayer(t *testing.T) { // P6.1, P6.2
	for i, e := range []api.Errno{api.ErrFrameForm, api.ErrFrameShort, api.ErrFrameMagic, api.ErrFrameVersion, api.ErrFrameLength, api.ErrFrameSum, api.ErrFrameKind} {
		if e != api.Errno(60+i) {
			t.Error(i, e)
		}
	}
}

func TestRight(t *testing.T) { // P6.1
	long := strings.Repeat("a", 64)
	for i, x := range []struct {
		f    api.Frame
		want bool
	}{
		{api.Frame{}, false},
		{api.Frame{Kind: 1}, true},
		{api.Frame{Kind: 2}, true},
		{api.Frame{Kind: 3}, false},
		{api.Frame{Kind: -1}, false},
		{api.Frame{Kind: 257}, false},
		{api.Frame{Kind: 258}, false},
		{api.Frame{Kind: 1, Body: "a"}, true},
		{api.Frame{Kind: 2, Body: "a"}, false},
		{api.Frame{Kind: 2, Body: "\x00"}, false},
		{api.Frame{Kind: 1, Body: long}, true},
		{api.Frame{Kind: 1, Body: long + "a"}, false},
		{api.Frame{Kind: 2, Body: long + "a"}, false},
		{api.Frame{Kind: 1, Epoch: 65535}, true},
		{api.Frame{Kind: 2, Epoch: 65535}, true},
		{api.Frame{Kind: 1, Epoch: 65536}, false},
		{api.Frame{Kind: 2, Epoch: 65536}, false},
		{api.Frame{Kind: 1, Epoch: -1}, false},
		{api.Frame{Kind: 2, Epoch: -1}, false},
		{api.Frame{Kind: 1, Seq: math.MaxUint64, Ack: math.MaxUint64}, true},
		{api.Frame{Kind: 2, Seq: math.MaxUint64, Ack: math.MaxUint64}, true},
	} {
		if Right(x.f) != x.want {
			t.Errorf("%d: %v: want %v", i, x.f, x.want)
		}
	}
	for _, f := range someFrames() {
		if Right(f) != plainRight(f) {
			t.Errorf("%v: want %v", f, plainRight(f))
		}
	}
}

func TestPut(t *testing.T) { // P6.1
	for _, x := range []struct {
		f    api.Frame
		want string
	}{
		{api.Frame{Kind: 2, Epoch: 1, Ack: 2}, "\x4e\x01\x02\x00\x01\x00\x00\x00\x00\x00\x00\x00\x00\x00\x00\x00\x00\x00\x00\x00\x02\x00\x00"},
		{api.Frame{Kind: 1, Epoch: 258, Seq: 1 << 56, Ack: 7, Body: "hi"}, "N\x01\x01\x01\x02\x01\x00\x00\x00\x00\x00\x00\x00\x00\x00\x00\x00\x00\x00\x00\x07\x00\x02hi"},
		{api.Frame{Kind: 1, Epoch: 65535, Seq: 0x0102030405060708, Ack: 0xf1f2f3f4f5f6f7f8}, "N\x01\x01\xff\xff\x01\x02\x03\x04\x05\x06\x07\x08\xf1\xf2\xf3\xf4\xf5\xf6\xf7\xf8\x00\x00"},
		{api.Frame{Kind: 1, Body: strings.Repeat("z", 64)}, "N\x01\x01\x00\x00" + strings.Repeat("\x00", 16) + "\x00\x40" + strings.Repeat("z", 64)},
	} {
		if s, e := Put(x.f); s != summed(x.want) || e != 0 {
			t.Errorf("%v: got %q, %d, want %q", x.f, s, e, summed(x.want))
		}
	}
	for _, f := range goodFrames() {
		want := laid(int(f.Kind), f.Epoch, f.Seq, f.Ack, len(f.Body), f.Body)
		if s, e := Put(f); s != want || e != 0 {
			t.Errorf("%v: got %q, %d, want %q", f, s, e, want)
		}
	}
}

func TestPutOfWhatMayNotBe(t *testing.T) { // P6.1
	for _, f := range someFrames() {
		if plainRight(f) {
			continue
		}
		if s, e := Put(f); s != "" || e != api.ErrFrameForm {
			t.Errorf("%v: got %q, %d", f, s, e)
		}
	}
}

func TestSame(t *testing.T) { // P6.1
	a := api.Frame{Kind: 1, Epoch: 2, Seq: 3, Ack: 4, Body: "abc"}
	b := a
	b.Body = strings.Clone(a.Body)
	if !Same(a, a) || !Same(a, b) || !Same(api.Frame{}, api.Frame{}) {
		t.Error("one frame isn't the same")
	}
	for i, other := range []func(f *api.Frame){
		func(f *api.Frame) { f.Kind = 2 },
		func(f *api.Frame) { f.Kind = 257 },
		func(f *api.Frame) { f.Epoch = 3 },
		func(f *api.Frame) { f.Epoch += 65536 },
		func(f *api.Frame) { f.Epoch = -2 },
		func(f *api.Frame) { f.Seq = 4 },
		func(f *api.Frame) { f.Seq |= 1 << 63 },
		func(f *api.Frame) { f.Ack = 3 },
		func(f *api.Frame) { f.Ack |= 1 << 63 },
		func(f *api.Frame) { f.Seq, f.Ack = f.Ack, f.Seq },
		func(f *api.Frame) { f.Body = "" },
		func(f *api.Frame) { f.Body = "abd" },
		func(f *api.Frame) { f.Body = "ab" },
		func(f *api.Frame) { f.Body = "abcd" },
		func(f *api.Frame) { f.Body = "abc\x00" },
	} {
		b := a
		other(&b)
		if Same(a, b) || Same(b, a) || !Same(b, b) {
			t.Error(i, b)
		}
	}
}

func TestWhatIsWrongStandsFirst(t *testing.T) { // P6.2: of each fault, all that come behind it hold too
	good := laid(1, 2, 3, 4, 2, "hi")
	bad := "M\x02\x03" + good[3:]
	long := strings.Repeat("a", 65)
	for _, x := range []struct {
		s  string
		at int
		e  api.Errno
	}{
		{good, 0, 0},
		{"", 0, 61}, {"x", 1, 61}, {bad[:26], 26, 61}, {good[:26], 26, 61},
		{bad[:27], 0, 62}, {bad, 0, 62}, {"n" + good[1:], 0, 62}, {summed("\x00" + good[1:25]), 0, 62},
		{"N\x02\x03" + good[3:27], 1, 63}, {"N\x00\x03" + good[3:], 1, 63}, {summed("N\x02" + good[2:25]), 1, 63},
		{"N\x01\x03" + good[3:27], 21, 64}, {good + "x", 21, 64}, {good[:24] + good[25:], 21, 64}, {good[:28], 21, 64}, {laid(3, 2, 3, 4, 1, "hi"), 21, 64}, {laid(1, 2, 3, 4, 3, "hi"), 21, 64}, {laid(2, 2, 3, 4, 1, ""), 21, 64}, {laid(1, 2, 3, 4, 65, ""), 21, 64},
		{"N\x01\x03" + good[3:], 25, 65}, {good[:28] + "x", 25, 65}, {good[:25] + "\x00\x00\x00\x00", 25, 65}, {laid(1, 2, 3, 4, 65, long)[:88] + "aaaa", 88, 65},
		{laid(0, 2, 3, 4, 0, ""), 2, 66}, {laid(3, 2, 3, 4, 0, ""), 2, 66}, {laid(255, 2, 3, 4, 2, "hi"), 2, 66}, {laid(2, 2, 3, 4, 1, "h"), 2, 66}, {laid(1, 2, 3, 4, 65, long), 2, 66}, {laid(2, 2, 3, 4, 65, long), 2, 66}, {laid(3, 2, 3, 4, 65, long), 2, 66},
		{laid(2, 2, 3, 4, 0, ""), 0, 0}, {laid(1, 2, 3, 4, 0, ""), 0, 0}, {laid(1, 2, 3, 4, 64, long[1:]), 0, 0}, {laid(2, 65535, math.MaxUint64, math.MaxUint64, 0, ""), 0, 0},
	} {
		wantWhy(t, x.s, x.at, x.e)
	}
}

func TestTooFewBytes(t *testing.T) { // P6.2
	for _, s := range []string{laid(1, 2, 3, 4, 64, strewn(64)), strings.Repeat("N", 27), strewn(27)} {
		for few := range 27 {
			wantWhy(t, s[:few], few, api.ErrFrameShort)
		}
	}
}

func TestAllBytesOfTheHead(t *testing.T) { // P6.2: with and without the sum mended
	for _, good := range []string{laid(1, 2, 3, 4, 2, "hi"), laid(2, 2, 3, 4, 0, ""), laid(1, 65535, 3, 4, 64, strewn(64))} {
		for at := range 23 {
			for b := range 256 {
				other := good[:at] + string([]byte{byte(b)}) + good[at+1:]
				for _, s := range []string{other, summed(other[:len(other)-4])} {
					wantAt, want := plainWhy(s)
					wantWhy(t, s, wantAt, want)
				}
			}
		}
	}
}

func TestLengths(t *testing.T) { // P6.2
	for _, told := range []int{0, 1, 2, 63, 64, 65, 66, 255, 256, 257, 512, 65534, 65535} {
		for _, are := range []int{0, 1, 2, 63, 64, 65, 66, 255, 256, 257, 512, 65534, 65535, 65536, 65537, 65600, 131072} {
			for kind := range 4 {
				s := laid(kind, 1, 2, 3, told, strings.Repeat("b", are))
				wantAt, want := plainWhy(s)
				wantWhy(t, s, wantAt, want)
			}
		}
	}
}

func TestOtherSums(t *testing.T) { // P6.2
	for _, good := range []string{laid(1, 2, 3, 4, 2, "hi"), laid(2, 2, 3, 4, 0, ""), laid(1, 2, 3, 4, 64, strewn(64)), laid(3, 2, 3, 4, 100, strewn(100))} {
		ahead := len(good) - 4
		for _, tail := range []string{"\x00\x00\x00\x00", "\xff\xff\xff\xff", good[ahead+1:] + good[ahead:ahead+1], string([]byte{good[ahead+3], good[ahead+2], good[ahead+1], good[ahead]})} {
			wantWhy(t, good[:ahead]+tail, ahead, api.ErrFrameSum)
		}
		for bit := range 32 {
			tail := []byte(good[ahead:])
			tail[bit/8] ^= 1 << (bit % 8)
			wantWhy(t, good[:ahead]+string(tail), ahead, api.ErrFrameSum)
		}
	}
}

func TestBytesHereAndThere(t *testing.T) { // P6.2, P6.3: whatever is told a frame is what that frame is put as
	chance := chances()
	for range 50000 {
		body := strewn(70)[:chance(71)]
		b := []byte(laid(chance(4), chance(65536), uint64(chance(1000)), uint64(chance(1000)), len(body)+chance(12)/11, body))
		for range chance(3) {
			b[chance(len(b))] = byte(chance(256))
		}
		s := string(b[:len(b)-chance(30)/29*chance(len(b))])
		if chance(2) == 0 && len(s) > 3 {
			s = summed(s[:len(s)-4])
		}
		wantAt, want := plainWhy(s)
		wantWhy(t, s, wantAt, want)
		if f, e := Get(s); e == 0 {
			if again, e := Put(f); again != s || e != 0 {
				t.Errorf("%q is a frame, that is put as %q, %d", s, again, e)
			}
		}
	}
}

func TestPutIsGotAgain(t *testing.T) { // P6.3
	for _, f := range goodFrames() {
		s, e := Put(f)
		if e != 0 {
			t.Errorf("%v: %d", f, e)
		}
		wantWhy(t, s, 0, 0)
		wantGet(t, s, f, 0)
		if got, _ := Get(s); !Same(f, got) {
			t.Errorf("put %v, got %v", f, got)
		}
	}
}

func TestOneOtherByteIsNoFrame(t *testing.T) { // P6.3
	for _, f := range []api.Frame{{Kind: 1}, {Kind: 2}, {Kind: 2, Epoch: 1, Ack: 2}, {Kind: 1, Epoch: 258, Seq: 1 << 56, Ack: 7, Body: "hi"}, {Kind: 1, Epoch: 65535, Seq: math.MaxUint64, Ack: math.MaxUint64, Body: strings.Repeat("\xff", 64)}, {Kind: 1, Body: strewn(64)}} {
		s, _ := Put(f)
		for at := range len(s) {
			for by := 1; by < 256; by++ {
				b := []byte(s)
				b[at] ^= byte(by)
				wantAt, want := plainWhy(string(b))
				if want == 0 {
					t.Errorf("%q is a frame", b)
				}
				wantWhy(t, string(b), wantAt, want)
			}
		}
	}
}

func TestOtherFramesAreOtherBytes(t *testing.T) { // P6.3
	got := map[string]api.Frame{}
	for _, f := range goodFrames() {
		s, _ := Put(f)
		if other, ok := got[s]; ok && other != f {
			t.Errorf("%v and %v are both put as %q", f, other, s)
		}
		got[s] = f
	}
}

func TestWhatIsWrongWrapsANumber(t *testing.T) { // the chapter's way
	for _, s := range []string{"", strings.Repeat("x", 27), "N\x02" + strings.Repeat("x", 25), laid(1, 2, 3, 4, 1, ""), laid(1, 2, 3, 4, 0, "")[:26] + "x", laid(3, 2, 3, 4, 0, "")} {
		wantAt, want := plainWhy(s)
		err := bytesFault(s)
		var number api.Errno
		if !errors.Is(err, want) || errors.Is(err, api.ErrFrameForm) || !errors.As(err, &number) || number != want {
			t.Errorf("%q: %v, %d, want %d", s, err, number, want)
		}
		var f fault
		if !errors.As(err, &f) || f.at != wantAt || err.Error() != want.Error() {
			t.Errorf("%q: %v, want %d", s, err, wantAt)
		}
	}
	if bytesFault(laid(1, 2, 3, 4, 0, "")) != nil || wrapped(nil) != api.OK {
		t.Error("nothing is wrong, but a number is told")
	}
}

func TestAnswersAreNewMemory(t *testing.T) { // the rules that hold everywhere
	for _, f := range goodFrames() {
		if f.Body == "" {
			continue
		}
		s, _ := Put(f)
		got, _ := Get(s)
		from := uintptr(unsafe.Pointer(unsafe.StringData(s)))
		if at := uintptr(unsafe.Pointer(unsafe.StringData(got.Body))); at >= from && at < from+uintptr(len(s)) {
			t.Errorf("%q: its memory is handed out", s)
		}
	}
}

func TestLongBytes(t *testing.T) { // P1: every call ends, at many bytes too
	long := strewn(1 << 24)
	wantWhy(t, "N\x01\x01"+long, 21, api.ErrFrameLength)
	wantWhy(t, "M\x01\x01"+long, 0, api.ErrFrameMagic)
	f := api.Frame{Kind: 1, Body: long}
	if s, e := Put(f); s != "" || e != api.ErrFrameForm || Right(f) || !Same(f, f) {
		t.Error("a long body:", len(s), e)
	}
}
