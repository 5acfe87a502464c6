package order

import (
	"hash/fnv"
	"math"
	"math/big"
	"math/rand"
	"slices"
	"strings"
	"sync"
	"testing"

	"mosaicist/api"
	"mosaicist/value"
)

func number(n int) api.Value  { return api.Value{Kind: api.KindInt, N: n} }
func text(s string) api.Value { return api.Value{Kind: api.KindBytes, S: s} }

var (
	nothing = api.Value{}
	no      = api.Value{Kind: api.KindBool}
	yes     = api.Value{Kind: api.KindBool, N: 1}
)

// most are as many bytes as a value may have.
var most = strings.Repeat("m", 60)

// keyOf is what the chapter asks Key for; 2^63 is added, and wraps round, in numbers that have no bound.
func keyOf(v api.Value) string {
	b := []byte{byte((v.Kind%256 + 256) % 256)}
	if v.Kind == 1 || v.Kind == 2 {
		n := new(big.Int).Add(big.NewInt(int64(v.N)), new(big.Int).Lsh(big.NewInt(1), 63))
		b = append(b, n.FillBytes(make([]byte, 8))...)
	}
	if v.Kind == 3 {
		b = append(b, v.S...)
	}
	return string(b)
}

// spreadOf is what the chapter asks Spread for, by the library's own FNV-1a.
func spreadOf(key string) uint64 {
	h := fnv.New64a()
	h.Write([]byte(key))
	return h.Sum64() ^ h.Sum64()/(1<<32)
}

// anyBytes are up to most of them, often of those that lie at the ends.
func anyBytes(r *rand.Rand, most int) string {
	b := make([]byte, r.Intn(most+1))
	r.Read(b)
	for i := range b {
		if r.Intn(2) == 0 {
			b[i] = "\x00\x01\x7f\x80\xfe\xff"[r.Intn(6)]
		}
	}
	return string(b)
}

// anyNumber is one of any size, below nought and above it.
func anyNumber(r *rand.Rand) int {
	n := int(r.Uint64() >> r.Intn(64))
	if r.Intn(2) == 0 {
		return -n
	}
	return n
}

// anyRight is a value that may be.
func anyRight(r *rand.Rand) api.Value {
	switch r.Intn(6) {
	case 0:
		return nothing
	case 1:
		return api.Value{Kind: api.KindBool, N: r.Intn(2)}
	case 2, 3:
		return number(anyNumber(r))
	}
	return text(anyBytes(r, 60))
}

// numbers are those around nought, around each power of two, and at both ends; in order, each one once.
func numbers() []int {
	l := []int{math.MinInt, math.MinInt + 1, math.MinInt + 2, math.MaxInt - 1, math.MaxInt}
	for n := -300; n <= 300; n++ {
		l = append(l, n)
	}
	for bits := range 63 {
		for by := -2; by <= 2; by++ {
			l = append(l, 1<<bits+by, -1<<bits+by)
		}
	}
	slices.Sort(l)
	return slices.Compact(l)
}

// inTurn are values that may be, in order.
func inTurn() []api.Value {
	l := []api.Value{nothing}
	for _, n := range numbers() {
		l = append(l, number(n))
	}
	l = append(l, no, yes)
	for _, s := range []string{
		"", "\x00", "\x00\x00", "\x00\x01", "\x00a", "\x00\xff", "\x01", "\x01\x80", "A", "B", "a", "a\x00", "a\x00b", "aA", "aa", "ab", "ab\x00", "abc", "b", "ba",
		most[1:], most, "n", "\x7f", "\x7f\xff", "\x80", "\xc3\xa4", "\xff", "\xff\x00", "\xff\xff", strings.Repeat("\xff", 60),
	} {
		l = append(l, text(s))
	}
	return l
}

// P7.1: Key

func TestKey(t *testing.T) {
	for _, c := range []struct {
		v    api.Value
		want string
	}{
		{nothing, "\x00"},
		{number(1), "\x01\x80\x00\x00\x00\x00\x00\x00\x01"},
		{number(0), "\x01\x80\x00\x00\x00\x00\x00\x00\x00"},
		{number(-1), "\x01\x7f\xff\xff\xff\xff\xff\xff\xff"},
		{number(255), "\x01\x80\x00\x00\x00\x00\x00\x00\xff"},
		{number(256), "\x01\x80\x00\x00\x00\x00\x00\x01\x00"},
		{number(-256), "\x01\x7f\xff\xff\xff\xff\xff\xff\x00"},
		{number(0x123456789abcdef), "\x01\x81\x23\x45\x67\x89\xab\xcd\xef"},
		{number(-0x123456789abcdef), "\x01\x7e\xdc\xba\x98\x76\x54\x32\x11"},
		{number(math.MaxInt), "\x01\xff\xff\xff\xff\xff\xff\xff\xff"},
		{number(math.MinInt), "\x01\x00\x00\x00\x00\x00\x00\x00\x00"},
		{no, "\x02\x80\x00\x00\x00\x00\x00\x00\x00"},
		{yes, "\x02\x80\x00\x00\x00\x00\x00\x00\x01"},
		{text(""), "\x03"}, {text("ab"), "\x03ab"}, {text("\x00"), "\x03\x00"}, {text("\xff\x80\xc3"), "\x03\xff\x80\xc3"}, {text(most), "\x03" + most},
	} {
		if got := Key(c.v); got != c.want {
			t.Errorf("%#v: %x, want %x", c.v, got, c.want)
		}
	}
}

// TestKeyOfRaw wants what doesn't belong to a kind to be left out, and kinds that there aren't to be one byte.
func TestKeyOfRaw(t *testing.T) {
	long := strings.Repeat("x", 1<<16)
	for _, c := range []struct {
		v    api.Value
		want string
	}{
		{api.Value{N: 1}, "\x00"}, {api.Value{S: "a"}, "\x00"}, {api.Value{N: math.MinInt, S: long}, "\x00"},
		{api.Value{Kind: 1, N: 1, S: "a"}, "\x01\x80\x00\x00\x00\x00\x00\x00\x01"}, {api.Value{Kind: 1, S: long}, "\x01\x80\x00\x00\x00\x00\x00\x00\x00"},
		{api.Value{Kind: 2, N: 2}, "\x02\x80\x00\x00\x00\x00\x00\x00\x02"}, {api.Value{Kind: 2, N: -1, S: "a"}, "\x02\x7f\xff\xff\xff\xff\xff\xff\xff"},
		{api.Value{Kind: 2, N: 257}, "\x02\x80\x00\x00\x00\x00\x00\x01\x01"}, {api.Value{Kind: 2, N: math.MinInt}, "\x02\x00\x00\x00\x00\x00\x00\x00\x00"},
		{api.Value{Kind: 3, N: 1}, "\x03"}, {api.Value{Kind: 3, N: -1, S: "ab"}, "\x03ab"}, {text(most + "m"), "\x03" + most + "m"}, {text(long), "\x03" + long},
		{api.Value{Kind: 4, N: 1, S: "a"}, "\x04"}, {api.Value{Kind: 9}, "\x09"}, {api.Value{Kind: 255}, "\xff"}, {api.Value{Kind: 256}, "\x00"},
		{api.Value{Kind: 257, N: 1}, "\x01"}, {api.Value{Kind: 258, N: 1}, "\x02"}, {api.Value{Kind: 259, S: "ab"}, "\x03"}, {api.Value{Kind: 1<<32 + 1, N: 1}, "\x01"},
		{api.Value{Kind: -1}, "\xff"}, {api.Value{Kind: -253, S: "ab"}, "\x03"}, {api.Value{Kind: -255, N: 1}, "\x01"}, {api.Value{Kind: -256}, "\x00"},
		{api.Value{Kind: math.MaxInt}, "\xff"}, {api.Value{Kind: math.MinInt}, "\x00"},
	} {
		if got := Key(c.v); got != c.want {
			t.Errorf("kind %d, %d, %.70q: %.70x, want %.70x", c.v.Kind, c.v.N, c.v.S, got, c.want)
		}
	}
}

// TestKeyOfEachShape puts kinds, numbers and texts together, those too that may not be.
func TestKeyOfEachShape(t *testing.T) {
	for kind := -600; kind <= 600; kind++ {
		for _, n := range []int{math.MinInt, -257, -1, 0, 1, 2, 256, math.MaxInt} {
			for _, s := range []string{"", "a", "\x00", "\xff\x00", most, most + "m"} {
				v := api.Value{Kind: kind, N: n, S: s}
				if got, want := Key(v), keyOf(v); got != want {
					t.Fatalf("kind %d, %d, %q: %x, want %x", kind, n, s, got, want)
				}
			}
		}
	}
}

func TestKeyOfAny(t *testing.T) {
	for _, n := range numbers() {
		if got, want := Key(number(n)), keyOf(number(n)); got != want {
			t.Errorf("%d: %x, want %x", n, got, want)
		}
	}
	r := rand.New(rand.NewSource(71))
	for range 50000 {
		v := api.Value{Kind: r.Intn(6) - 1, N: anyNumber(r), S: anyBytes(r, 80)}
		if got, want := Key(v), keyOf(v); got != want {
			t.Fatalf("%#v: %x, want %x", v, got, want)
		}
	}
}

// TestKeyIsShort wants keys of values that may be to have the bytes that a bucket takes.
func TestKeyIsShort(t *testing.T) {
	for _, v := range inTurn() {
		if got := len(Key(v)); got < 1 || got > 1+api.MaxBytes {
			t.Errorf("%#v: %d bytes", v, got)
		}
	}
}

// P7.1: Spread

func TestSpread(t *testing.T) {
	for _, c := range []struct {
		key  string
		want uint64
	}{
		{"", 0xcbf29ce44fd0bfc1},
		{"\x00", 0xaf63bd4c29620a93}, {"a", 0xaf63dc4c296230c0}, {"b", 0xaf63df4c29622ee9}, {"\xff", 0xaf64724c29669922},
		{"ab", 0x89c4407bdd9dc6d}, {"ba", 0x8a63307bdebe30b}, {"a\x00", 0x89be207bddf13e3}, {"\x00\x00", 0x8328807bcd9e7ea}, {"foobar", 0x8594417172ad2699},
		{"\x01\x80\x00\x00\x00\x00\x00\x00\x01", 0xcffdb262c867f7bd}, {"\x01\x7f\xff\xff\xff\xff\xff\xff\xff", 0xd72bde2651d01482},
		{"\x03ab", 0xe33fd51891317429}, {most + "m", 0xd581c156c335f6ca},
	} {
		if got := Spread(c.key); got != c.want {
			t.Errorf("%q: %x, want %x", c.key, got, c.want)
		}
	}
}

// TestSpreadOfFewBytes goes through all keys of up to two bytes.
func TestSpreadOfFewBytes(t *testing.T) {
	for a := range 256 {
		one := string([]byte{byte(a)})
		if got, want := Spread(one), spreadOf(one); got != want {
			t.Fatalf("%x: %x, want %x", one, got, want)
		}
		for b := range 256 {
			two := string([]byte{byte(a), byte(b)})
			if got, want := Spread(two), spreadOf(two); got != want {
				t.Fatalf("%x: %x, want %x", two, got, want)
			}
		}
	}
}

func TestSpreadOfAnyBytes(t *testing.T) {
	r := rand.New(rand.NewSource(72))
	for range 20000 {
		key := anyBytes(r, 80)
		if got, want := Spread(key), spreadOf(key); got != want {
			t.Fatalf("%x: %x, want %x", key, got, want)
		}
	}
	for _, key := range []string{strings.Repeat("\x00", 1<<16), strings.Repeat("\xff", 1<<16), strings.Repeat("ä", 1<<15), strings.Repeat("m", 1<<20)} {
		if got, want := Spread(key), spreadOf(key); got != want {
			t.Errorf("%d bytes, %.4x first: %x, want %x", len(key), key, got, want)
		}
	}
	for _, v := range inTurn() {
		if got, want := Spread(Key(v)), spreadOf(keyOf(v)); got != want {
			t.Errorf("the key of %#v: %x, want %x", v, got, want)
		}
	}
}

// TestHandedInStays wants memory that a key was made of to be free to change: neither key nor sum hangs on it.
func TestHandedInStays(t *testing.T) {
	b := []byte("ab")
	key := Key(text(string(b)))
	sum := Spread(key)
	b[0] = 'x'
	other := Key(text(string(b)))
	if key != "\x03ab" || other != "\x03xb" || Spread(key) != sum || Spread(other) == sum {
		t.Errorf("%q and %q", key, other)
	}
}

func TestManyAtOnce(t *testing.T) {
	var all sync.WaitGroup
	for i := range 8 {
		all.Go(func() {
			r := rand.New(rand.NewSource(int64(73 + i)))
			for range 2000 {
				v := anyRight(r)
				if key := Key(v); key != keyOf(v) || Spread(key) != spreadOf(key) {
					t.Errorf("goroutine %d: %#v has the key %x", i, v, key)
					return
				}
			}
		})
	}
	all.Wait()
}

// P7.2

// wantSameOrder wants two values that may be, and their keys, to stand in one order.
func wantSameOrder(t *testing.T, a, b api.Value) {
	t.Helper()
	if got, want := strings.Compare(Key(a), Key(b)), value.Compare(a, b); got != want {
		t.Fatalf("%#v and %#v: %d, want %d", a, b, got, want)
	}
}

// TestInOrder wants the key of each of a list, in order, to stand ahead of all behind it.
func TestInOrder(t *testing.T) {
	l := inTurn()
	for i, a := range l {
		if !value.Right(a) {
			t.Fatalf("%#v may not be", a)
		}
		for _, b := range l[i+1:] {
			if Key(a) >= Key(b) {
				t.Fatalf("%#v and %#v: %x isn't ahead of %x", a, b, Key(a), Key(b))
			}
			wantSameOrder(t, b, a)
		}
		wantSameOrder(t, a, a)
	}
}

func TestInOrderOfAny(t *testing.T) {
	r := rand.New(rand.NewSource(82))
	for range 200000 {
		wantSameOrder(t, anyRight(r), anyRight(r))
		n := anyNumber(r)
		wantSameOrder(t, number(n), number(n+r.Intn(3)))
		s := anyBytes(r, 50)
		wantSameOrder(t, text(s+anyBytes(r, 4)), text(s+anyBytes(r, 4)))
	}
}

// TestSortedByKeys sorts values by their keys, and wants them to come as they come by themselves.
func TestSortedByKeys(t *testing.T) {
	r := rand.New(rand.NewSource(83))
	l := inTurn()
	r.Shuffle(len(l), func(i, j int) { l[i], l[j] = l[j], l[i] })
	slices.SortFunc(l, func(a, b api.Value) int { return strings.Compare(Key(a), Key(b)) })
	if !slices.Equal(l, inTurn()) {
		t.Errorf("in order: %#v", l)
	}
}
