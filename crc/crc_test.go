package crc

import (
	"encoding/binary"
	"hash/crc32"
	"math"
	"strings"
	"testing"
	"unsafe"
)

// plain is the sum of bytes behind others of that sum, bit by bit, as the chapter tells it.
func plain(sum uint32, s string) uint32 {
	bits := sum ^ 0xffffffff
	for i := 0; i < len(s); i++ {
		bits ^= uint32(s[i])
		for range 8 {
			fell := bits & 1
			bits >>= 1
			if fell == 1 {
				bits ^= 3988292384
			}
		}
	}
	return bits ^ 0xffffffff
}

// chances tells numbers, always the same ones.
func chances() func() uint32 {
	seed := uint64(5)
	return func() uint32 {
		seed = seed*6364136223846793005 + 1442695040888963407
		return uint32(seed >> 32)
	}
}

// strewn are so many bytes of all kinds.
func strewn(count int) string {
	chance := chances()
	b := make([]byte, count)
	for i := range b {
		b[i] = byte(chance() >> 8)
	}
	return string(b)
}

// texts are bytes of many kinds and lengths: nothing, all bytes alone, letters that are more than one byte long, bytes that are no text.
func texts() []string {
	l := []string{
		"", "a", "abc", "123456789", "N\x01\x02", "\x00", "\x00\x00", "\x00\x00\x00\x00", "\xff\xff\xff\xff", "\xff\xff\xff\xff\xff",
		"é", "日本語", "\u2028", "\ufffd", "\xef\xbf", "\xff", "\x80\xbf", "\xed\xa0\x80", "a\x00b", "\r\n",
		strings.Repeat("\x00", 32), strings.Repeat("\xff", 32), strings.Repeat("ab", 50),
		strewn(15), strewn(16), strewn(17), strewn(64), strewn(91), strewn(1000),
	}
	for b := range 256 {
		l = append(l, string([]byte{byte(b)}), string([]byte{7, byte(b), 9}))
	}
	return l
}

// someSums are sums at the edges and here and there.
func someSums() []uint32 {
	l := []uint32{0, 1, 2, 15, 16, 255, 256, 0x7fffffff, 0x80000000, 0xedb88320, 0xfffffffe, math.MaxUint32}
	chance := chances()
	for range 50 {
		l = append(l, chance())
	}
	for bit := range 32 {
		l = append(l, 1<<bit)
	}
	return l
}

func wantSum(t *testing.T, call, s string, got, want uint32) {
	t.Helper()
	if got != want {
		t.Errorf("%s of %q: got %#x, want %#x", call, s, got, want)
	}
}

func wantGood(t *testing.T, s, want string, wantOK bool) {
	t.Helper()
	got, ok := Good(s)
	if got != want || ok != wantOK {
		t.Errorf("good of %q: got %q, %v, want %q, %v", s, got, ok, want, wantOK)
	}
}

func TestSumOfTexts(t *testing.T) { // P5.1
	for _, x := range []struct {
		s    string
		want uint32
	}{
		{"", 0},
		{"123456789", 3421780262},
		{"123456789", 0xcbf43926},
		{"a", 0xe8b7be43},
		{"abc", 0x352441c2},
		{"\x00", 0xd202ef8d},
		{"\xff", 0xff000000},
		{"\x00\x00\x00\x00", 0x2144df1c},
		{"\xff\xff\xff\xff", 0xffffffff},
		{"The quick brown fox jumps over the lazy dog", 0x414fa339},
	} {
		wantSum(t, "sum", x.s, Sum(x.s), x.want)
	}
}

func TestSumIsThatOfEthernet(t *testing.T) { // P5.1
	for _, s := range texts() {
		wantSum(t, "sum", s, Sum(s), plain(0, s))
		wantSum(t, "sum", s, Sum(s), crc32.ChecksumIEEE([]byte(s)))
	}
}

func TestSumOfAllPairsOfBytes(t *testing.T) { // P5.1
	for pair := range 1 << 16 {
		s := string([]byte{byte(pair >> 8), byte(pair)})
		wantSum(t, "sum", s, Sum(s), plain(0, s))
	}
}

func TestMoreIsTheSumOfBoth(t *testing.T) { // P5.1
	for _, s := range texts() {
		for at := range len(s) + 1 {
			wantSum(t, "more", s, More(Sum(s[:at]), s[at:]), plain(0, s))
		}
	}
	wantSum(t, "more", "6789", More(Sum("12345"), "6789"), 3421780262)
	wantSum(t, "more", "", More(Sum("123456789"), ""), 3421780262)
	wantSum(t, "more", "c", More(More(More(0, "a"), "b"), "c"), 0x352441c2)
}

func TestMoreOfAnySum(t *testing.T) { // P5.1: all numbers of 32 bits are sums of some bytes
	for _, sum := range someSums() {
		wantSum(t, "more", "", More(sum, ""), sum)
		for _, s := range []string{"a", "\x00", "\xff", "123456789", "日本語", strewn(64)} {
			wantSum(t, "more", s, More(sum, s), plain(sum, s))
		}
	}
}

func TestTail(t *testing.T) { // P5.1
	for _, x := range []struct {
		sum  uint32
		want string
	}{
		{0, "\x00\x00\x00\x00"},
		{1, "\x00\x00\x00\x01"},
		{0x100, "\x00\x00\x01\x00"},
		{0x10000, "\x00\x01\x00\x00"},
		{0x1000000, "\x01\x00\x00\x00"},
		{0x01020304, "\x01\x02\x03\x04"},
		{0x80ff7f00, "\x80\xff\x7f\x00"},
		{3421780262, "\xcb\xf4\x39\x26"},
		{math.MaxUint32, "\xff\xff\xff\xff"},
	} {
		if got := Tail(x.sum); got != x.want {
			t.Errorf("tail of %#x: got %q, want %q", x.sum, got, x.want)
		}
	}
	for _, sum := range someSums() {
		if want := string(binary.BigEndian.AppendUint32(nil, sum)); Tail(sum) != want {
			t.Errorf("tail of %#x: got %q, want %q", sum, Tail(sum), want)
		}
	}
}

func TestGood(t *testing.T) { // P5.1
	wantGood(t, "123456789\xcb\xf4\x39\x26", "123456789", true)
	wantGood(t, "\x00\x00\x00\x00", "", true) // nothing, and its sum
	wantGood(t, "\xff\xff\xff\xff\xff\xff\xff\xff", "\xff\xff\xff\xff", true)
	for _, s := range texts() {
		wantGood(t, s+Tail(plain(0, s)), s, true)
		twice := s + Tail(plain(0, s))
		wantGood(t, twice+Tail(plain(0, twice)), twice, true)
	}
}

func TestGoodOfOtherSums(t *testing.T) { // P5.1
	for _, s := range []string{
		"123456789", "123456789\x26\x39\xf4\xcb", "123456789\x34\x0b\xc6\xd9", "123456789\xcb\xf4\x39", "123456789\xcb\xf4\x39\x26\x00",
		"123456788\xcb\xf4\x39\x26", "\xcb\xf4\x39\x26", "\xcb\xf4\x39\x26123456789", "\x00\x00\x00\x01", "\xff\xff\xff\xff",
		"\x00\x00\x00\x00\x00", "\x00\x00\x00\x00\x00\x00\x00\x00", "a\x00\x00\x00\x00", strings.Repeat("\x00", 100),
	} {
		wantGood(t, s, "", false)
	}
	for _, s := range texts() {
		sum := plain(0, s)
		for _, other := range someSums() {
			if other != 0 {
				wantGood(t, s+Tail(sum^other), "", false)
			}
		}
	}
}

func TestGoodOfTooFewBytes(t *testing.T) { // P5.1
	wantGood(t, "", "", false)
	for three := range 1 << 16 {
		s := string([]byte{byte(three >> 8), byte(three), byte(three >> 8)})
		for few := range 3 {
			wantGood(t, s[:few+1], "", false)
		}
	}
	for _, sum := range someSums() {
		for few := range 4 {
			wantGood(t, Tail(sum)[:few], "", false)
		}
	}
}

// turned is bytes of which those from a place on are turned by a number's, as far as it has some.
func turned(s string, at int, by uint32) string {
	b := []byte(s)
	for i := 0; by>>(8*i) != 0 && i < 4; i++ {
		b[at+i] ^= byte(by >> (8 * i))
	}
	return string(b)
}

func TestOtherBytesHaveOtherSums(t *testing.T) { // P5.2
	chance := chances()
	for _, s := range []string{"1234", "123456789", "\x00\x00\x00\x00", "\xff\xff\xff\xff\xff", strewn(64), strewn(300)} {
		for at := range len(s) - 3 {
			for range 200 {
				for _, by := range []uint32{1 + chance()%255, 1 + chance()%0xffff, 1 + chance()%0xffffff, 1 + chance()%0xffffffff, 1 << (chance() % 32)} {
					other := turned(s, at, by)
					if Sum(other) == Sum(s) {
						t.Errorf("%q and %q have one sum, %#x", s, other, Sum(s))
					}
					wantGood(t, other+Tail(Sum(s)), "", false)
				}
			}
		}
	}
}

func TestOnePairOfBytesIsOther(t *testing.T) { // P5.2
	s := "123456789"
	for at := range len(s) - 1 {
		for by := 1; by < 1<<16; by++ {
			if other := turned(s, at, uint32(by)); Sum(other) == Sum(s) {
				t.Errorf("%q and %q have one sum", s, other)
			}
		}
	}
}

// TestAllFoursOfBytesAreOther can't try all of them. But each bit that is turned turns the sum by a number of its own, whichever others are turned too (which is tried here and there). So if of the 32 numbers none, and no few of them, turn each other to 0, then whatever differs turns the sum.
func TestAllFoursOfBytesAreOther(t *testing.T) { // P5.2
	chance := chances()
	for _, s := range []string{"1234", "123456789", "\x00\x00\x00\x00", strewn(64), strewn(300)} {
		for at := range len(s) - 3 {
			var by [32]uint32
			for bit := range 32 {
				by[bit] = Sum(s) ^ Sum(turned(s, at, 1<<bit))
			}
			wantNoneTurnedToNothing(t, by)
			for range 50 {
				which, all := chance(), uint32(0)
				for bit := range 32 {
					all ^= by[bit] * (which >> bit & 1)
				}
				other := turned(s, at, which)
				wantSum(t, "sum", other, Sum(other), Sum(s)^all)
			}
		}
	}
}

// wantNoneTurnedToNothing holds that of the numbers each has a bit that those told ahead, turned by one another, don't take away.
func wantNoneTurnedToNothing(t *testing.T, by [32]uint32) {
	t.Helper()
	var withTop [32]uint32 // of each highest bit the number that has it
	for _, x := range by {
		for top := 31; top >= 0 && x != 0; top-- {
			if x>>top&1 == 0 {
				continue
			}
			if withTop[top] == 0 {
				withTop[top] = x
				break
			}
			x ^= withTop[top]
		}
		if x == 0 {
			t.Errorf("%#x: some of them turn each other to 0", by)
		}
	}
}

func TestAnswersAreNewMemory(t *testing.T) { // the rules that hold everywhere
	for _, s := range texts() {
		whole := s + Tail(Sum(s))
		got, _ := Good(whole)
		if got != "" && unsafe.StringData(got) == unsafe.StringData(whole) {
			t.Errorf("%q: its memory is handed out", s)
		}
	}
}

func TestLongBytes(t *testing.T) { // P1: every call ends, at many bytes too
	s := strewn(1 << 24)
	wantSum(t, "sum", "many", Sum(s), crc32.ChecksumIEEE([]byte(s)))
	wantSum(t, "more", "many", More(Sum(s[:1<<23]), s[1<<23:]), Sum(s))
	if got, ok := Good(s + Tail(Sum(s))); got != s || !ok {
		t.Error("many bytes and their sum:", len(got), ok)
	}
	if got, ok := Good(s); got != "" || ok {
		t.Error("many bytes and another sum:", len(got), ok)
	}
}
