package msg

import (
	"encoding/binary"
	"fmt"
	"math"
	"strings"
	"testing"

	"narthex/api"
)

// plainNames are the kinds' names, in the order of the kinds, from 1 on.
var plainNames = strings.Fields("fork token bottle ask new known close closed colour")

// plainRight is whether a message may be, as the chapter tells it.
func plainRight(m api.Msg) bool {
	if m.Kind < 1 || m.Kind > 9 || m.Epoch < 0 || m.Epoch >= 65536 {
		return false
	}
	if m.Kind != 9 {
		return m.Num == 0
	}
	return m.Num >= 0 && m.Num < 65536
}

// laid is the bytes of a message that may be.
func laid(m api.Msg) string {
	b := binary.BigEndian.AppendUint16([]byte{byte(m.Kind)}, uint16(m.Epoch))
	if m.Kind == 9 {
		b = binary.BigEndian.AppendUint16(b, uint16(m.Num))
	}
	return string(b)
}

// plainGet is the message that bytes are; false: they are none.
func plainGet(s string) (api.Msg, bool) {
	b := []byte(s)
	switch {
	case len(b) == 3 && b[0] >= 1 && b[0] <= 8:
		return api.Msg{Kind: api.MsgKind(b[0]), Epoch: int(binary.BigEndian.Uint16(b[1:]))}, true
	case len(b) == 5 && b[0] == 9:
		return api.Msg{Kind: 9, Epoch: int(binary.BigEndian.Uint16(b[1:])), Num: int(binary.BigEndian.Uint16(b[3:]))}, true
	}
	return api.Msg{}, false
}

func plainShow(m api.Msg) string {
	name := "?"
	if m.Kind >= 1 && m.Kind <= 9 {
		name = plainNames[m.Kind-1]
	}
	if m.Kind == 9 {
		return fmt.Sprintf("%s@%d %d", name, m.Epoch, m.Num)
	}
	return fmt.Sprintf("%s@%d", name, m.Epoch)
}

// chances tells numbers below others, always the same ones.
func chances() func(below int) int {
	seed := uint64(7)
	return func(below int) int {
		seed = seed*6364136223846793005 + 1442695040888963407
		return int(seed>>33) % below
	}
}

// someNumbers are numbers at the edges, and those that have the lowest bits of some that may be.
func someNumbers() []int {
	return []int{
		0, 1, 2, 9, 10, 127, 128, 255, 256, 257, 258, 772, 32767, 32768, 65279, 65280, 65534, 65535,
		65536, 65537, 131072, 1<<31 - 1, 1 << 31, 1<<32 - 1, 1 << 32, 1<<32 + 1, math.MaxInt64 - 1, math.MaxInt64,
		-1, -2, -255, -256, -65535, -65536, -65537, -1 << 31, -1 << 32, math.MinInt64, math.MinInt64 + 1,
	}
}

// someKinds are all kinds, and many that are none, at the edges and with the lowest bits of some.
func someKinds() []api.MsgKind {
	l := []api.MsgKind{1<<16 + 1, 1<<16 + 9, 1 << 32, 1<<32 + 1, 1<<32 + 9, math.MaxInt64, math.MinInt64, math.MinInt64 + 1, math.MinInt64 + 9}
	for k := range 600 {
		l = append(l, api.MsgKind(k-300))
	}
	return l
}

// eachMsg tells all messages of some kinds, epochs and numbers, those that may be and those that may not.
func eachMsg(tell func(m api.Msg)) {
	for _, kind := range someKinds() {
		for _, epoch := range someNumbers() {
			for _, num := range someNumbers() {
				tell(api.Msg{Kind: kind, Epoch: epoch, Num: num})
			}
		}
	}
}

// eachGood tells all messages that may be, but of colours those of all epochs with some numbers, and of some epochs with all numbers.
func eachGood(tell func(m api.Msg)) {
	for x := range 65536 {
		for kind := range 8 {
			tell(api.Msg{Kind: api.MsgKind(kind + 1), Epoch: x})
		}
		for _, other := range []int{0, 1, 255, 256, 258, 65534, 65535} {
			tell(api.Msg{Kind: 9, Epoch: x, Num: other})
			tell(api.Msg{Kind: 9, Epoch: other, Num: x})
		}
	}
}

// wantPut and wantGet end the test at the first fault: many are tried, and more of them would tell no more.
func wantPut(t *testing.T, m api.Msg, want string, wantE api.Errno) {
	t.Helper()
	if s, e := Put(m); s != want || e != wantE {
		t.Fatalf("put of %+v: got %q, %d, want %q, %d", m, s, int(e), want, int(wantE))
	}
}

func wantGet(t *testing.T, s string) {
	t.Helper()
	want, ok := plainGet(s)
	wantE := api.OK
	if !ok {
		wantE = 71
	}
	if m, e := Get(s); m != want || e != wantE {
		t.Fatalf("get of %q: got %+v, %d, want %+v, %d", s, m, int(e), want, int(wantE))
	}
}

func TestErrorsOfThisLayer(t *testing.T) { // P7.1, P7.2
	if api.ErrMsgForm != 70 || api.ErrMsgBytes != 71 {
		t.Error(int(api.ErrMsgForm), int(api.ErrMsgBytes))
	}
}

func TestRight(t *testing.T) { // P7.1
	for i, x := range []struct {
		m    api.Msg
		want bool
	}{
		{api.Msg{}, false},
		{api.Msg{Kind: 1}, true},
		{api.Msg{Kind: 8}, true},
		{api.Msg{Kind: 9}, true},
		{api.Msg{Kind: 10}, false},
		{api.Msg{Kind: -1}, false},
		{api.Msg{Kind: 257}, false},
		{api.Msg{Kind: 265}, false},
		{api.Msg{Kind: 1, Epoch: 65535}, true},
		{api.Msg{Kind: 1, Epoch: 65536}, false},
		{api.Msg{Kind: 1, Epoch: -1}, false},
		{api.Msg{Kind: 9, Epoch: 65535, Num: 65535}, true},
		{api.Msg{Kind: 9, Epoch: 65536, Num: 1}, false},
		{api.Msg{Kind: 9, Epoch: -1, Num: 1}, false},
		{api.Msg{Kind: 9, Num: 65536}, false},
		{api.Msg{Kind: 9, Num: -1}, false},
		{api.Msg{Kind: 8, Num: 1}, false},
		{api.Msg{Kind: 8, Num: 65536}, false},
		{api.Msg{Kind: 8, Num: -1}, false},
		{api.Msg{Kind: 10, Num: 1}, false},
		{api.Msg{Kind: 0, Num: 1}, false},
	} {
		if Right(x.m) != x.want {
			t.Errorf("%d: %+v: want %v", i, x.m, x.want)
		}
	}
	eachMsg(func(m api.Msg) {
		if Right(m) != plainRight(m) {
			t.Fatalf("%+v: want %v", m, plainRight(m))
		}
	})
}

func TestPut(t *testing.T) { // P7.1
	for _, x := range []struct {
		m    api.Msg
		want string
	}{
		{api.Msg{Kind: api.MsgFork}, "\x01\x00\x00"},
		{api.Msg{Kind: api.MsgToken, Epoch: 1}, "\x02\x00\x01"},
		{api.Msg{Kind: api.MsgBottle, Epoch: 258}, "\x03\x01\x02"},
		{api.Msg{Kind: api.MsgAsk, Epoch: 2}, "\x04\x00\x02"},
		{api.Msg{Kind: api.MsgNew, Epoch: 256}, "\x05\x01\x00"},
		{api.Msg{Kind: api.MsgKnown, Epoch: 255}, "\x06\x00\xff"},
		{api.Msg{Kind: api.MsgClose, Epoch: 65280}, "\x07\xff\x00"},
		{api.Msg{Kind: api.MsgClosed, Epoch: 65535}, "\x08\xff\xff"},
		{api.Msg{Kind: api.MsgColour}, "\x09\x00\x00\x00\x00"},
		{api.Msg{Kind: api.MsgColour, Epoch: 258, Num: 772}, "\x09\x01\x02\x03\x04"},
		{api.Msg{Kind: api.MsgColour, Epoch: 65535, Num: 65535}, "\x09\xff\xff\xff\xff"},
	} {
		wantPut(t, x.m, x.want, 0)
	}
	eachMsg(func(m api.Msg) {
		if plainRight(m) {
			wantPut(t, m, laid(m), 0)
		} else {
			wantPut(t, m, "", 70)
		}
	})
}

func TestName(t *testing.T) { // P7.1
	for i, k := range []api.MsgKind{api.MsgFork, api.MsgToken, api.MsgBottle, api.MsgAsk, api.MsgNew, api.MsgKnown, api.MsgClose, api.MsgClosed, api.MsgColour} {
		if k != api.MsgKind(i+1) || Name(k) != plainNames[i] {
			t.Errorf("kind %d: got %q, want %q", k, Name(k), plainNames[i])
		}
	}
	for _, k := range someKinds() {
		if (k < 1 || k > 9) && Name(k) != "?" {
			t.Errorf("kind %d: got %q", k, Name(k))
		}
	}
}

func TestShow(t *testing.T) { // P7.1: what may not be is shown too
	for _, x := range []struct {
		m    api.Msg
		want string
	}{
		{api.Msg{Kind: api.MsgAsk, Epoch: 2}, "ask@2"},
		{api.Msg{}, "?@0"},
		{api.Msg{Kind: 10, Epoch: -3, Num: 5}, "?@-3"},
		{api.Msg{Kind: api.MsgFork, Epoch: 65536, Num: 7}, "fork@65536"},
		{api.Msg{Kind: api.MsgClosed, Num: -1}, "closed@0"},
		{api.Msg{Kind: api.MsgColour}, "colour@0 0"},
		{api.Msg{Kind: api.MsgColour, Epoch: 65535, Num: 65535}, "colour@65535 65535"},
		{api.Msg{Kind: api.MsgColour, Epoch: -1, Num: -20}, "colour@-1 -20"},
		{api.Msg{Kind: api.MsgColour, Epoch: math.MaxInt64, Num: math.MinInt64}, "colour@9223372036854775807 -9223372036854775808"},
		{api.Msg{Kind: math.MinInt64, Epoch: math.MinInt64, Num: 1}, "?@-9223372036854775808"},
	} {
		if got := Show(x.m); got != x.want {
			t.Fatalf("show of %+v: got %q, want %q", x.m, got, x.want)
		}
	}
	eachMsg(func(m api.Msg) {
		if got, want := Show(m), plainShow(m); got != want {
			t.Fatalf("show of %+v: got %q, want %q", m, got, want)
		}
	})
}

func TestPutIsGotAgain(t *testing.T) { // P7.2
	eachGood(func(m api.Msg) {
		s, e := Put(m)
		if e != 0 || s != laid(m) {
			t.Fatalf("put of %+v: got %q, %d", m, s, int(e))
		}
		if got, e := Get(s); got != m || e != 0 {
			t.Fatalf("put %+v, got %+v, %d", m, got, int(e))
		}
	})
}

func TestGetOfUpToThreeBytes(t *testing.T) { // P7.2: all of them
	wantGet(t, "")
	for a := range 256 {
		wantGet(t, string([]byte{byte(a)}))
		for b := range 256 {
			wantGet(t, string([]byte{byte(a), byte(b)}))
			for c := range 256 {
				wantGet(t, string([]byte{byte(a), byte(b), byte(c)}))
			}
		}
	}
}

func TestGetOfMoreBytes(t *testing.T) { // P7.2: a colour has five, and nothing else has more than three
	for kind := range 256 {
		for more := range 70 {
			for _, b := range []string{"\x00", "\x01", "\x09", "\xff"} {
				wantGet(t, string([]byte{byte(kind)})+strings.Repeat(b, more))
			}
		}
	}
	for few := range 6 {
		wantGet(t, "\x09\x01\x02\x03\x04"[:few])
		wantGet(t, "\x08\x01\x02\x00\x00"[:few])
	}
	wantGet(t, "\x01\x00\x02"+"\x01\x00\x02")
	wantGet(t, "fork@2")
	wantGet(t, "é\x00")
}

func TestGetHereAndThere(t *testing.T) { // P7.2: whatever is told a message is what that message is put as
	chance := chances()
	for range 500000 {
		b := make([]byte, 3+chance(4))
		for i := range b {
			b[i] = byte(chance(256))
		}
		b[0] = byte(chance(12))
		s := string(b)
		wantGet(t, s)
		if m, e := Get(s); e == 0 {
			wantPut(t, m, s, 0)
		}
	}
}

func TestOtherMessagesAreOtherBytes(t *testing.T) { // P7.2
	got := map[string]api.Msg{}
	eachGood(func(m api.Msg) {
		s, _ := Put(m)
		if other, ok := got[s]; ok && other != m {
			t.Fatalf("%+v and %+v are both put as %q", m, other, s)
		}
		got[s] = m
	})
}

func TestLongBytes(t *testing.T) { // P1: every call ends, at many bytes too
	for kind := range 11 {
		s := string([]byte{byte(kind)}) + strings.Repeat("\x01", 1<<24)
		if m, e := Get(s); m != (api.Msg{}) || e != 71 {
			t.Errorf("many bytes of kind %d: got %+v, %d", kind, m, int(e))
		}
	}
}
