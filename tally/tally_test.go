package tally

import (
	"hash/crc32"
	"math"
	"math/bits"
	"math/rand"
	"strings"
	"sync"
	"testing"
)

// The tests are of P2.1, but for those of bursts at the end, which are of P2.2.

// bitByBit is the sum as the chapter tells it, without a table.
func bitByBit(s string) uint32 {
	sum := uint32(0xffffffff)
	for _, b := range []byte(s) {
		for i := range 8 {
			low := sum&1 != uint32(b>>i&1)
			sum >>= 1
			if low {
				sum ^= 0xedb88320
			}
		}
	}
	return sum ^ 0xffffffff
}

// anyBytes is so many bytes of any.
func anyBytes(r *rand.Rand, n int) string {
	b := make([]byte, n)
	r.Read(b)
	return string(b)
}

// inBytes is a sum in four bytes, the highest first.
func inBytes(sum uint32) string {
	b := make([]byte, 4)
	for i := range b {
		b[i] = byte(sum >> (24 - 8*i))
	}
	return string(b)
}

// changed is s with these bytes, by exclusive or, from a place on.
func changed(s string, at int, by ...byte) string {
	b := []byte(s)
	for i, x := range by {
		b[at+i] ^= x
	}
	return string(b)
}

func TestOfKnownTexts(t *testing.T) {
	for s, want := range map[string]uint32{
		"":                         0,
		"\x00":                     0xd202ef8d,
		"\xff":                     0xff000000,
		"a":                        0xe8b7be43,
		"abc":                      0x352441c2,
		"123456789":                0xcbf43926,
		"\x00\x00\x00\x00":         0x2144df1c,
		"\xff\xff\xff\xff":         0xffffffff,
		strings.Repeat("\x00", 32): 0x190a55ad,
		strings.Repeat("\xff", 32): 0xff6cab0b,
		"The quick brown fox jumps over the lazy dog": 0x414fa339,
	} {
		if got := Of(s); got != want {
			t.Errorf("Of(%q): %08x, want %08x", s, got, want)
		}
	}
}

func TestOfEachByte(t *testing.T) {
	for b := range 256 {
		s := string([]byte{byte(b)})
		for _, s := range []string{s, "x" + s, s + "x"} {
			if got, want := Of(s), bitByBit(s); got != want {
				t.Errorf("Of(%q): %08x, want %08x", s, got, want)
			}
		}
	}
}

func TestOfAnyBytes(t *testing.T) {
	r := rand.New(rand.NewSource(2))
	for n := range 300 {
		s := anyBytes(r, n)
		if got, want := Of(s), bitByBit(s); got != want || want != crc32.ChecksumIEEE([]byte(s)) {
			t.Errorf("Of(%q): %08x, want %08x", s, got, want)
		}
	}
	s := anyBytes(r, 1<<20)
	if got, want := Of(s), crc32.ChecksumIEEE([]byte(s)); got != want {
		t.Errorf("Of a million bytes: %08x, want %08x", got, want)
	}
}

// TestOfBytesNotRunes wants bytes that are no letters, or parts of letters of several bytes, to count as they are.
func TestOfBytesNotRunes(t *testing.T) {
	for _, s := range []string{"\u00e4", "\xc3", "\xff\xfe", "\ufffd", "a\u20acb", "\xed\xa0\x80"} {
		if got, want := Of(s), bitByBit(s); got != want {
			t.Errorf("Of(%q): %08x, want %08x", s, got, want)
		}
	}
}

// wantSealed wants s, noughts, and the sum of both.
func wantSealed(t *testing.T, s string, size int) {
	t.Helper()
	body := s + strings.Repeat("\x00", size-4-len(s))
	if got := Sealed(s, size); got != body+inBytes(bitByBit(body)) {
		t.Errorf("Sealed(%.8q of %d bytes, %d): %.8q of %d bytes", s, len(s), size, got, len(got))
	}
}

func TestSealed(t *testing.T) {
	r := rand.New(rand.NewSource(3))
	for n := range 20 {
		for room := range 20 {
			wantSealed(t, anyBytes(r, n), n+room+4)
		}
	}
	for _, n := range []int{0, 1, 200, 208, 216, 251, 252} {
		wantSealed(t, anyBytes(r, n), 256)
	}
	wantSealed(t, "\x00\x00", 9)
	wantSealed(t, "ab", 100000)
}

func TestSealedTexts(t *testing.T) {
	for _, c := range []struct {
		s    string
		size int
		want string
	}{
		{"", 4, "\x00\x00\x00\x00"},
		{"", 5, "\x00\xd2\x02\xef\x8d"},
		{"a", 5, "a\xe8\xb7\xbe\x43"},
		{"123456789", 13, "123456789\xcb\xf4\x39\x26"},
		{"\xff\xff\xff\xff", 8, "\xff\xff\xff\xff\xff\xff\xff\xff"},
	} {
		if got := Sealed(c.s, c.size); got != c.want {
			t.Errorf("Sealed(%q, %d): %q, want %q", c.s, c.size, got, c.want)
		}
	}
}

func TestSealedWithoutRoom(t *testing.T) {
	long := strings.Repeat("l", 300)
	for _, c := range []struct {
		s    string
		size int
	}{
		{"", 3}, {"", 0}, {"", -1}, {"", -4}, {"", math.MinInt}, {"", math.MinInt + 3},
		{"a", 4}, {"a", 3}, {"a", 1}, {"a", 0}, {"a", math.MinInt},
		{"abc", 6}, {"abc", 3}, {"abc", -7}, {long[:253], 256}, {long[:256], 256}, {long, 256}, {long, math.MinInt + 1},
	} {
		if got := Sealed(c.s, c.size); got != "" {
			t.Errorf("Sealed(%d bytes, %d): %.8q of %d bytes, want nothing", len(c.s), c.size, got, len(got))
		}
	}
}

// TestSealedBeyondTheBound wants no panic where the document promises nothing any more.
func TestSealedBeyondTheBound(t *testing.T) {
	for _, size := range []int{math.MaxInt, math.MaxInt - 1, 1 << 40, math.MaxInt32 + 1} {
		for _, s := range []string{"", "abc"} {
			if got := Sealed(s, size); got != "" {
				t.Errorf("Sealed(%q, %d): %d bytes", s, size, len(got))
			}
		}
	}
}

func TestWhole(t *testing.T) {
	r := rand.New(rand.NewSource(4))
	for n := range 300 {
		s := anyBytes(r, n)
		sum := bitByBit(s)
		if !Whole(s + inBytes(sum)) {
			t.Errorf("%q and its sum aren't whole", s)
		}
		for i := range 32 {
			if Whole(s + inBytes(sum^1<<i)) {
				t.Errorf("%q is whole with bit %d of its sum turned", s, i)
			}
		}
		if turned := bits.ReverseBytes32(sum); turned != sum && Whole(s+inBytes(turned)) {
			t.Errorf("%q is whole with its sum turned round", s)
		}
	}
}

func TestWholeOfSealed(t *testing.T) {
	r := rand.New(rand.NewSource(5))
	for n := range 253 {
		s := Sealed(anyBytes(r, n), 256)
		if !Whole(s) {
			t.Errorf("%d bytes, sealed, aren't whole", n)
		}
		for _, other := range []string{s[1:], s[:255], s + "\x00", "\x00" + s, s[:252] + s[253:] + "x"} {
			ahead := other[:len(other)-4]
			if want := other == ahead+inBytes(bitByBit(ahead)); Whole(other) != want {
				t.Errorf("%d bytes, sealed, and then moved: whole is %t", n, !want)
			}
		}
	}
}

func TestWholeOfFewBytes(t *testing.T) {
	for s, want := range map[string]bool{
		"": false, "\x00": false, "\x00\x00": false, "\x00\x00\x00": false, "abc": false,
		"\x00\x00\x00\x00": true, "abcd": false, "\x00\x00\x00\x01": false, "\xff\xff\xff\xff": false,
		"\x00\x00\x00\x00\x00": false, "\x00\xd2\x02\xef\x8d": true, "\x00\x8d\xef\x02\xd2": false,
	} {
		if got := Whole(s); got != want {
			t.Errorf("Whole(%q): %t", s, got)
		}
	}
}

func TestManyAtOnce(t *testing.T) {
	var all sync.WaitGroup
	for i := range 8 {
		all.Go(func() {
			own := strings.Repeat(string(rune('a'+i)), 100)
			for range 50 {
				if s := Sealed(own, 256); Of(own) != bitByBit(own) || !Whole(s) || Whole(changed(s, i, 1)) {
					t.Errorf("goroutine %d: another sum", i)
				}
			}
		})
	}
	all.Wait()
}

// TestShortBursts goes through all changes of one byte, and of two side by side.
func TestShortBursts(t *testing.T) {
	r := rand.New(rand.NewSource(6))
	s := anyBytes(r, 40)
	sum := Of(s)
	for at := range len(s) {
		for x := range 256 {
			if x > 0 && Of(changed(s, at, byte(x))) == sum {
				t.Fatalf("byte %d, changed by %02x: the same sum", at, x)
			}
		}
	}
	for x := 1; x < 1<<16; x++ {
		if Of(changed(s, 17, byte(x), byte(x>>8))) == sum {
			t.Fatalf("two bytes, changed by %04x: the same sum", x)
		}
	}
}

// independent tells whether no exclusive or of some of these is 0: then no two choices of some of them make the same.
func independent(l []uint32) bool {
	var byTop [33]uint32
	for _, x := range l {
		for x != 0 && byTop[bits.Len32(x)] != 0 {
			x ^= byTop[bits.Len32(x)]
		}
		if x == 0 {
			return false
		}
		byTop[bits.Len32(x)] = x
	}
	return true
}

// TestEachBurst leans on this: how a sum changes is, by exclusive or, how it changes by each turned bit (see the next test). So all bursts of a place are told, if their 32 bits are independent.
func TestEachBurst(t *testing.T) {
	r := rand.New(rand.NewSource(7))
	for _, n := range []int{4, 5, 20, 200, 252, 1000} {
		s := anyBytes(r, n)
		sum := Of(s)
		for at := range n - 3 {
			var l []uint32
			for i := range 32 {
				l = append(l, sum^Of(changed(s, at+i/8, 1<<(i%8))))
			}
			if !independent(l) {
				t.Errorf("of %d bytes four from %d on: two changes make the same sum", n, at)
			}
		}
	}
}

func TestSumsChangeBitByBit(t *testing.T) {
	r := rand.New(rand.NewSource(8))
	for range 3000 {
		n := 4 + r.Intn(300)
		s, at, by := anyBytes(r, n), r.Intn(n-3), anyBytes(r, 4)
		sum := Of(s)
		want := sum
		for i := range 32 {
			if by[i/8]>>(i%8)&1 == 1 {
				want ^= sum ^ Of(changed(s, at+i/8, 1<<(i%8)))
			}
		}
		if got := Of(changed(s, at, []byte(by)...)); got != want {
			t.Fatalf("%d bytes, changed at %d by %x: %08x, want %08x", n, at, by, got, want)
		}
	}
}

// TestBurstsAreTold wants sealed bytes of which up to four side by side are others, all of the text or all of the sum, not to be whole.
func TestBurstsAreTold(t *testing.T) {
	r := rand.New(rand.NewSource(9))
	for range 20000 {
		s := Sealed(anyBytes(r, r.Intn(253)), 256)
		size := 1 + r.Intn(4)
		by := []byte(anyBytes(r, size))
		by[0] |= 1
		at := r.Intn(252 - size + 1)
		if Whole(changed(s, at, by...)) || Of(changed(s, at, by...)) == Of(s) {
			t.Fatalf("bytes from %d on, changed by %x: whole", at, by)
		}
		if at = 252 + r.Intn(4-size+1); Whole(changed(s, at, by...)) {
			t.Fatalf("the sum, changed by %x: whole", by)
		}
	}
}
