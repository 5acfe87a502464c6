package hash

import (
	"hash/fnv"
	"maps"
	"math"
	"math/rand"
	"slices"
	"strconv"
	"strings"
	"sync"
	"testing"

	"mosaicist/api"
	"mosaicist/order"
)

// place is a key's: a tile, and a slot.
func place(tile, slot int) api.Place { return api.Place{Tile: tile, Slot: slot} }

// placeOf is the n-th row's.
func placeOf(n int) api.Place { return place(n/8%64, n%8) }

// keyOf is the n-th key, of a number.
func keyOf(n int) string { return order.Key(api.Value{Kind: api.KindInt, N: n}) }

// spreadOf is the chapter's spread by another way: the library's own FNV-1a, folded.
func spreadOf(key string) uint64 {
	h := fnv.New64a()
	h.Write([]byte(key))
	return h.Sum64() ^ h.Sum64()/(1<<32)
}

// power is 2 to the n-th.
func power(n int) uint64 {
	p := uint64(1)
	for range n {
		p *= 2
	}
	return p
}

// whereOf is a key's bucket as the chapter tells it.
func whereOf(level, next int, key string) int {
	s := spreadOf(key)
	if next > 0 && s%power(level) < uint64(next) {
		return int(s % (power(level) * 2))
	}
	return int(s % power(level))
}

// shapeOf is the level and the next bucket of an index of so many buckets, counted up one by one.
func shapeOf(buckets int) (int, int) {
	level, next := 0, 0
	for range buckets - 1 {
		next++
		if next == int(power(level)) {
			level, next = level+1, 0
		}
	}
	return level, next
}

// indexOf is the index of so many buckets that has what a map holds.
func indexOf(m map[string]api.Place, buckets int) api.Hash {
	h := api.Hash{Buckets: make([][]api.Entry, buckets)}
	h.Level, h.Next = shapeOf(buckets)
	for _, key := range slices.Sorted(maps.Keys(m)) {
		at := whereOf(h.Level, h.Next, key)
		h.Buckets[at] = append(h.Buckets[at], api.Entry{Key: key, At: m[key]})
	}
	return h
}

// same tells whether two indexes are alike.
func same(a, b api.Hash) bool {
	return a.Level == b.Level && a.Next == b.Next && slices.EqualFunc(a.Buckets, b.Buckets, slices.Equal[[]api.Entry])
}

// clone is h in memory of its own, with spare room for so many entries behind each list, which is filled.
func clone(h api.Hash, spare int) api.Hash {
	filling := api.Entry{Key: "spare", At: place(42, 2)}
	all := make([][]api.Entry, 0, len(h.Buckets)+spare)
	for _, b := range h.Buckets {
		l := slices.Concat(b, slices.Repeat([]api.Entry{filling}, spare))
		all = append(all, l[:len(b)])
	}
	for range spare {
		all = append(all, []api.Entry{filling})
	}
	h.Buckets = all[:len(h.Buckets)]
	return h
}

// whole is h with its spare room laid open.
func whole(h api.Hash, spare int) api.Hash {
	h.Buckets = slices.Clone(h.Buckets[:len(h.Buckets)+spare])
	for i, b := range h.Buckets[:len(h.Buckets)-spare] {
		h.Buckets[i] = b[:len(b)+spare]
	}
	return h
}

// filled is an index of so many keys of numbers, put one by one, and a map of the same.
func filled(size int) (api.Hash, map[string]api.Place) {
	h, m := New(), map[string]api.Place{}
	for n := range size {
		h = Put(h, keyOf(n), placeOf(n))
		m[keyOf(n)] = placeOf(n)
	}
	return h, m
}

// grownTo is an empty index of so many buckets.
func grownTo(buckets int) api.Hash {
	h := New()
	for range buckets - 1 {
		h = Halve(h)
	}
	return h
}

// anyKey is one of some hundred keys, or a longer one.
func anyKey(r *rand.Rand) string {
	switch r.Intn(4) {
	case 0:
		return keyOf(r.Intn(60) - 30)
	case 1:
		return order.Key(api.Value{Kind: api.KindBytes, S: strconv.Itoa(r.Intn(60))})
	case 2:
		return strings.Repeat("\x00", r.Intn(30))
	}
	key := make([]byte, r.Intn(62))
	r.Read(key)
	return string(key)
}

// anyPlace is a place that may be.
func anyPlace(r *rand.Rand) api.Place { return place(r.Intn(64), r.Intn(8)) }

// wantIndex wants h to be just what a map holds, in so many buckets, and each of its keys to be found.
func wantIndex(t *testing.T, what string, h api.Hash, m map[string]api.Place, buckets int) {
	t.Helper()
	if !same(h, indexOf(m, buckets)) {
		t.Fatalf("%s: %d buckets, level %d, next %d: %x, want %d buckets: %x", what, len(h.Buckets), h.Level, h.Next, h.Buckets, buckets, indexOf(m, buckets).Buckets)
	}
	if Count(h) != len(m) {
		t.Fatalf("%s: count %d, want %d", what, Count(h), len(m))
	}
	for key, want := range m {
		if got, is := Get(h, key); !is || got != want {
			t.Fatalf("%s: %q is at %+v, %t, want %+v", what, key, got, is, want)
		}
	}
}

// wantNone wants a key not to be found.
func wantNone(t *testing.T, what string, h api.Hash, key string) {
	t.Helper()
	if got, is := Get(h, key); is || got != (api.Place{}) {
		t.Fatalf("%s: %q is at %+v, %t", what, key, got, is)
	}
}

// P12.1

func TestNew(t *testing.T) {
	h := New()
	if h.Level != 0 || h.Next != 0 || len(h.Buckets) != 1 || len(h.Buckets[0]) != 0 || Count(h) != 0 || !Right(h) {
		t.Errorf("%x", h)
	}
	for _, key := range []string{"", "\x00", "a", keyOf(0), strings.Repeat("m", 61), strings.Repeat("m", 62)} {
		wantNone(t, "in a new one", h, key)
	}
	Put(h, "a", place(1, 1))
	h.Buckets[0] = []api.Entry{{Key: "a"}}
	if other := New(); len(other.Buckets[0]) != 0 {
		t.Errorf("another new one: %x", other)
	}
}

func TestCount(t *testing.T) {
	for size := range 40 {
		h, _ := filled(size)
		if got := Count(h); got != size {
			t.Errorf("%d keys: %d", size, got)
		}
		if got := Count(Halve(h)); got != size {
			t.Errorf("%d keys, halved: %d", size, got)
		}
	}
	// It counts what stands there, whether it may be or not.
	two := []api.Entry{{Key: "b", At: place(-1, 8)}, {Key: "a"}}
	for _, c := range []struct {
		h    api.Hash
		want int
	}{
		{api.Hash{}, 0}, {api.Hash{Level: -1, Next: 9}, 0}, {api.Hash{Buckets: [][]api.Entry{{}, nil}}, 0}, {api.Hash{Buckets: [][]api.Entry{two}}, 2},
		{api.Hash{Level: 99, Buckets: [][]api.Entry{nil, two, nil, two[:1], two}}, 5}, {api.Hash{Next: -1, Buckets: slices.Repeat([][]api.Entry{two}, 1000)}, 2000},
	} {
		if got := Count(c.h); got != c.want {
			t.Errorf("%x: %d, want %d", c.h, got, c.want)
		}
	}
}

// TestGet asks an index, of each size, for the keys that it has, and for those that are near them.
func TestGet(t *testing.T) {
	h, m := New(), map[string]api.Place{}
	for n := range 520 {
		wantNone(t, "not put yet", h, keyOf(n))
		h = Put(h, keyOf(n), placeOf(n))
		m[keyOf(n)] = placeOf(n)
		if got, is := Get(h, keyOf(n)); !is || got != placeOf(n) {
			t.Fatalf("%d: %+v, %t", n, got, is)
		}
	}
	wantIndex(t, "520 keys", h, m, 130)
	for n := range 520 {
		key := keyOf(n)
		for _, other := range []string{"", key[:8], key + "\x00", key + key, "\x00" + key, "\x03" + key[1:], "\xff" + key[1:], keyOf(-1 - n), keyOf(520 + n)} {
			wantNone(t, "of 520", h, other)
		}
	}
}

// TestHalve halves an empty index on and on: round by round, up to 256 buckets.
func TestHalve(t *testing.T) {
	h := New()
	for buckets := 1; buckets <= 256; buckets++ {
		level, next := shapeOf(buckets)
		if h.Level != level || h.Next != next || len(h.Buckets) != buckets || Count(h) != 0 || !Right(h) {
			t.Fatalf("%d buckets: level %d, next %d, %d buckets, want %d, %d", buckets, h.Level, h.Next, len(h.Buckets), level, next)
		}
		h = Halve(h)
	}
	for range 50 {
		h = Halve(h)
		if h.Level != 8 || h.Next != 0 || len(h.Buckets) != 256 {
			t.Fatalf("beyond 256: level %d, next %d, %d buckets", h.Level, h.Next, len(h.Buckets))
		}
	}
}

// TestHalveRounds tells the first rounds one by one.
func TestHalveRounds(t *testing.T) {
	h := New()
	for _, want := range [][3]int{{0, 0, 1}, {1, 0, 2}, {1, 1, 3}, {2, 0, 4}, {2, 1, 5}, {2, 2, 6}, {2, 3, 7}, {3, 0, 8}, {3, 1, 9}} {
		if got := [3]int{h.Level, h.Next, len(h.Buckets)}; got != want {
			t.Errorf("%v, want %v", got, want)
		}
		h = Halve(h)
	}
}

// TestHalveEntries halves one that has entries: they go into the two halves, all else stays where it is.
func TestHalveEntries(t *testing.T) {
	for _, size := range []int{1, 2, 3, 4, 5, 9, 60, 500, 1024, 1100} {
		h, m := filled(size)
		for buckets := len(h.Buckets); buckets <= 260; buckets++ {
			wantIndex(t, "halved", h, m, min(buckets, 256))
			g := Halve(h)
			for at, b := range h.Buckets {
				if (at != h.Next || h.Level == 8) && !slices.Equal(g.Buckets[at], b) {
					t.Fatalf("%d keys, %d buckets: halved the %d., and the %d. has changed", size, len(h.Buckets), h.Next, at)
				}
			}
			h = g
		}
	}
}

// TestHalveBothWays wants entries of a bucket that is halved to go either way, and one that is empty to make two.
func TestHalveBothWays(t *testing.T) {
	// By the last bit of their spreads a, b and ab belong to 0, 1 and 1; by the last two, to 0, 1 and 1.
	h := New()
	for i, key := range []string{"a", "ab", "b"} {
		h = Put(h, key, placeOf(i))
	}
	entries := []api.Entry{{Key: "a", At: placeOf(0)}, {Key: "ab", At: placeOf(1)}, {Key: "b", At: placeOf(2)}}
	for _, want := range [][][]api.Entry{
		{entries}, {entries[:1], entries[1:]}, {entries[:1], entries[1:], nil}, {entries[:1], entries[1:], nil, nil},
	} {
		if !slices.EqualFunc(h.Buckets, want, slices.Equal[[]api.Entry]) {
			t.Errorf("%x, want %x", h.Buckets, want)
		}
		h = Halve(h)
	}
}

// TestPutGrows puts one key behind the other: as soon as there are more than four for each bucket, there is one bucket more.
func TestPutGrows(t *testing.T) {
	h, m := New(), map[string]api.Place{}
	for n := range 1100 {
		h = Put(h, keyOf(n), placeOf(n))
		m[keyOf(n)] = placeOf(n)
		if want := min((n+4)/4, 256); len(h.Buckets) != max(want, 1) {
			t.Fatalf("%d keys: %d buckets", n+1, len(h.Buckets))
		}
		if n < 80 || n%50 == 0 || n > 1020 && n < 1030 {
			wantIndex(t, "put", h, m, max(1, min((n+4)/4, 256)))
		}
	}
	wantIndex(t, "1100 keys", h, m, 256)
}

// TestPutExample wants two buckets of five entries, and one of four.
func TestPutExample(t *testing.T) {
	four, _ := filled(4)
	five, _ := filled(5)
	if len(four.Buckets) != 1 || four.Level != 0 || len(five.Buckets) != 2 || five.Level != 1 || five.Next != 0 {
		t.Errorf("%x and %x", four, five)
	}
}

// TestPutAgain puts keys that are there: each stands in its new place, and nothing grows.
func TestPutAgain(t *testing.T) {
	for _, size := range []int{1, 4, 5, 8, 9, 100, 512, 1024, 1030} {
		h, m := filled(size)
		buckets := len(h.Buckets)
		for n := range size {
			if n > 20 && n%17 != 0 {
				continue
			}
			h = Put(h, keyOf(n), place(63-n%64, 7-n%8))
			m[keyOf(n)] = place(63-n%64, 7-n%8)
			wantIndex(t, "put again", h, m, buckets)
			h = Put(h, keyOf(n), m[keyOf(n)])
			wantIndex(t, "put once more", h, m, buckets)
		}
	}
}

// TestPutIntoGrown wants an index that has more buckets than its entries need not to grow until they are too many.
func TestPutIntoGrown(t *testing.T) {
	for _, buckets := range []int{2, 3, 4, 7, 8, 20} {
		h, m := grownTo(buckets), map[string]api.Place{}
		for n := range 4*buckets + 9 {
			h = Put(h, keyOf(n), placeOf(n))
			m[keyOf(n)] = placeOf(n)
			wantIndex(t, "grown", h, m, max(buckets, (n+4)/4))
		}
	}
}

// TestPutAnyPlace wants keys and places to be put as they stand: only Right asks whether they may be.
func TestPutAnyPlace(t *testing.T) {
	keys := []string{"", "\x00", strings.Repeat("m", 61), strings.Repeat("m", 62), strings.Repeat("\x00", 300), strings.Repeat("ä", 1<<15)}
	places := []api.Place{{}, place(63, 7), place(-1, 0), place(64, 0), place(0, -1), place(0, 8), place(math.MinInt, math.MaxInt), place(math.MaxInt, math.MinInt)}
	for _, at := range places {
		h, m := New(), map[string]api.Place{}
		for i, key := range keys {
			h = Put(h, key, at)
			m[key] = at
			wantIndex(t, "any place", h, m, 1+i/4)
		}
	}
}

func TestDrop(t *testing.T) {
	for _, size := range []int{1, 4, 5, 8, 9, 61, 200} {
		h, m := filled(size)
		buckets := len(h.Buckets)
		for _, key := range []string{"", "x", keyOf(-1), keyOf(size), keyOf(0)[:8], keyOf(0) + "\x00", strings.Repeat("m", 62)} {
			wantIndex(t, "dropped one that isn't there", Drop(h, key), m, buckets)
		}
		for n := range size {
			h = Drop(h, keyOf(n))
			delete(m, keyOf(n))
			wantNone(t, "dropped", h, keyOf(n))
			wantIndex(t, "dropped", h, m, buckets)
			if !same(Drop(h, keyOf(n)), h) {
				t.Fatalf("%d of %d, dropped twice", n, size)
			}
		}
	}
	if got := Drop(New(), "a"); !same(got, New()) {
		t.Errorf("of a new one: %x", got)
	}
}

// TestAsAMap goes on with one index, beside a map of the same entries; how many buckets there are is counted by the chapter's words.
func TestAsAMap(t *testing.T) {
	r := rand.New(rand.NewSource(121))
	for range 60 {
		h, m, buckets := New(), map[string]api.Place{}, 1
		for range 150 {
			key := anyKey(r)
			at, there := m[key]
			if got, is := Get(h, key); is != there || got != at {
				t.Fatalf("%q: %+v, %t, want %+v, %t", key, got, is, at, there)
			}
			switch r.Intn(12) {
			case 0:
				h = Halve(h)
				buckets++
			case 1, 2, 3:
				h = Drop(h, key)
				delete(m, key)
			default:
				at := anyPlace(r)
				h = Put(h, key, at)
				m[key] = at
				if len(m) > 4*buckets {
					buckets++
				}
			}
			wantIndex(t, "going on", h, m, buckets)
			if !Right(h) {
				t.Fatalf("%x may not be", h)
			}
		}
	}
}

// TestHandedInStays wants neither what is handed in nor its spare room to be changed, of an index that may be, and of any other.
func TestHandedInStays(t *testing.T) {
	var l []api.Hash
	for _, size := range []int{0, 1, 4, 5, 7, 8, 20, 64, 1024} {
		h, _ := filled(size)
		l = append(l, h, Halve(h))
	}
	for _, h := range append(l, wrongOnes()...) {
		const spare = 3
		in := clone(h, spare)
		was := clone(whole(in, spare), 0)
		for _, key := range []string{"", "a", keyOf(0), keyOf(1), keyOf(7), keyOf(3000), strings.Repeat("m", 62)} {
			Put(Put(in, key, place(1, 1)), key, place(2, 2))
			Drop(Drop(in, key), key)
			Halve(Halve(in))
			Get(in, key)
			Count(in)
			Right(in)
			if !same(whole(in, spare), was) {
				t.Fatalf("level %d, next %d, %d buckets: changed, by %q", h.Level, h.Next, len(h.Buckets), key)
			}
		}
	}
}

// TestAnswersStay keeps many indexes, each made from one of those before, and wants all of them to be as they were when they were made.
func TestAnswersStay(t *testing.T) {
	r := rand.New(rand.NewSource(122))
	kept := []api.Hash{New()}
	were := []api.Hash{New()}
	for range 3000 {
		h := kept[max(0, len(kept)-1-r.Intn(20))]
		switch r.Intn(6) {
		case 0:
			h = Halve(h)
		case 1:
			h = Drop(h, anyKey(r))
		default:
			h = Put(h, anyKey(r), anyPlace(r))
		}
		if len(h.Buckets) > 60 {
			h = New()
		}
		kept, were = append(kept, h), append(were, clone(h, 0))
	}
	for i, h := range kept {
		if !same(h, were[i]) {
			t.Fatalf("the %d. has changed", i)
		}
	}
}

// P12.2

// TestWhere tells buckets of keys whose spreads are known: of the last bits of 30c0, 2ee9, 7429 and f7bd (base 16).
func TestWhere(t *testing.T) {
	for _, c := range []struct {
		key               string
		level, next, want int
	}{
		{"a", 0, 0, 0}, {"b", 0, 0, 0}, {"", 0, 0, 0}, {"x", 0, 0, 0},
		{"a", 1, 0, 0}, {"a", 2, 0, 0}, {"a", 6, 0, 0}, {"a", 7, 0, 0x40}, {"a", 8, 0, 0xc0},
		{"a", 1, 1, 0}, {"a", 2, 1, 0}, {"a", 6, 1, 0x40}, {"a", 6, 63, 0x40}, {"a", 7, 0x40, 0x40}, {"a", 7, 0x41, 0xc0}, {"a", 7, 0x7f, 0xc0},
		{"b", 1, 0, 1}, {"b", 1, 1, 1}, {"b", 2, 0, 1}, {"b", 2, 1, 1}, {"b", 2, 2, 1}, {"b", 3, 0, 1}, {"b", 3, 1, 1}, {"b", 3, 2, 9},
		{"b", 4, 9, 9}, {"b", 4, 10, 9}, {"b", 5, 9, 9}, {"b", 5, 10, 0x29}, {"b", 8, 0, 0xe9}, {"b", 8, 0xe9, 0xe9}, {"b", 8, 0xea, 0xe9},
		{"\x03ab", 5, 9, 9}, {"\x03ab", 5, 10, 0x29}, {"\x03ab", 6, 0x29, 0x29}, {"\x03ab", 6, 0x2a, 0x29}, {"\x03ab", 8, 0, 0x29}, {"\x03ab", 8, 255, 0x29},
		{"\x01\x80\x00\x00\x00\x00\x00\x00\x01", 2, 0, 1}, {"\x01\x80\x00\x00\x00\x00\x00\x00\x01", 2, 2, 5}, {"\x01\x80\x00\x00\x00\x00\x00\x00\x01", 8, 0, 0xbd},
		{"\x01\x80\x00\x00\x00\x00\x00\x00\x01", 8, 0xbd, 0xbd}, {"\x01\x80\x00\x00\x00\x00\x00\x00\x01", 8, 0xbe, 0x1bd},
	} {
		if got := Where(c.level, c.next, c.key); got != c.want {
			t.Errorf("%q, level %d, next %d: %x, want %x", c.key, c.level, c.next, got, c.want)
		}
	}
}

// TestWhereOfAll goes through all levels and next ones, and those below nought, which come ahead of all buckets.
func TestWhereOfAll(t *testing.T) {
	r := rand.New(rand.NewSource(123))
	keys := []string{"", "\x00", "a", strings.Repeat("m", 61), strings.Repeat("\xff", 300)}
	for range 200 {
		keys = append(keys, anyKey(r))
	}
	for level := range 9 {
		for next := -3; next < int(power(level)); next++ {
			for _, key := range keys {
				if got, want := Where(level, next, key), whereOf(level, next, key); got != want {
					t.Fatalf("%q, level %d, next %d: %d, want %d", key, level, next, got, want)
				}
			}
		}
		if got, want := Where(level, math.MinInt, "a"), whereOf(level, 0, "a"); got != want {
			t.Errorf("level %d, the least number next: %d, want %d", level, got, want)
		}
	}
}

// TestWhereReaches wants each bucket to be some key's.
func TestWhereReaches(t *testing.T) {
	for _, buckets := range []int{1, 2, 3, 4, 5, 7, 8, 100, 255, 256} {
		level, next := shapeOf(buckets)
		seen := map[int]int{}
		for n := range 50 * buckets {
			seen[Where(level, next, keyOf(n))]++
		}
		if len(seen) != buckets {
			t.Errorf("%d buckets: %d are reached", buckets, len(seen))
		}
	}
}

func TestRight(t *testing.T) {
	for size := range 300 {
		if h, _ := filled(size); !Right(h) {
			t.Errorf("%d keys: %x may not be", size, h)
		}
	}
	full, _ := filled(1100)
	if !Right(full) || !Right(api.Hash{Buckets: [][]api.Entry{{}}}) {
		t.Error("1100 keys, or an empty list: may not be")
	}
	// Nothing is said of how full buckets are: one alone may have 512 entries.
	_, m := filled(512)
	if !Right(indexOf(m, 1)) || !Right(indexOf(m, 2)) || !Right(indexOf(m, 256)) {
		t.Error("512 keys in one bucket, in two, or in 256: may not be")
	}
	_, m = filled(513)
	if Right(indexOf(m, 1)) || !Right(indexOf(m, 2)) {
		t.Error("513 keys, in one bucket: may be; or in two: may not be")
	}
}

// TestRightByShape goes through levels, next ones and numbers of buckets.
func TestRightByShape(t *testing.T) {
	for level := -2; level < 12; level++ {
		nexts := []int{-1, 0, 1, 2, 3, 4, 7, 8, 63, 64, 127, 128, 255, 256, 257, math.MinInt, math.MaxInt}
		for _, next := range nexts {
			for buckets := range 600 {
				want := level >= 0 && level <= 8 && next >= 0 && next < int(power(level)) && buckets == int(power(level))+next
				if got := Right(api.Hash{Level: level, Next: next, Buckets: make([][]api.Entry, buckets)}); got != want {
					t.Fatalf("level %d, next %d, %d buckets: %t", level, next, buckets, got)
				}
			}
		}
	}
	for _, level := range []int{math.MinInt, math.MinInt + 1, -64, -8, 9, 31, 32, 62, 63, 64, 65, 256, math.MaxInt} {
		for _, buckets := range []int{0, 1, 2, 256, 512} {
			if Right(api.Hash{Level: level, Buckets: make([][]api.Entry, buckets)}) {
				t.Errorf("level %d, %d buckets: may be", level, buckets)
			}
		}
	}
}

// TestRightByPlace lays each entry into each bucket: only in its own one it may stand.
func TestRightByPlace(t *testing.T) {
	for _, buckets := range []int{2, 3, 5, 8, 20, 256, 260, 400, 511} {
		level, next := shapeOf(buckets)
		for n := range 10 {
			for at := range buckets {
				h := api.Hash{Level: level, Next: next, Buckets: make([][]api.Entry, buckets)}
				h.Buckets[at] = []api.Entry{{Key: keyOf(n), At: placeOf(n)}}
				if got, want := Right(h), at == whereOf(level, next, keyOf(n)); got != want {
					t.Fatalf("key %d of %d buckets, in the %d.: %t", n, buckets, at, got)
				}
			}
		}
	}
}

// TestRightMoved takes one entry out of an index that may be, and lays it elsewhere.
func TestRightMoved(t *testing.T) {
	h, _ := filled(30)
	for at, b := range h.Buckets {
		for i, e := range b {
			for to := range h.Buckets {
				moved := clone(h, 0)
				moved.Buckets[at] = slices.Delete(moved.Buckets[at], i, i+1)
				where, _ := slices.BinarySearchFunc(moved.Buckets[to], e.Key, func(x api.Entry, key string) int { return strings.Compare(x.Key, key) })
				moved.Buckets[to] = slices.Insert(moved.Buckets[to], where, e)
				if got := Right(moved); got != (to == at) {
					t.Fatalf("the %d. of bucket %d, in %d: %t", i, at, to, got)
				}
			}
		}
	}
}

// wrongOnes are indexes that may not be, each for one reason.
func wrongOnes() []api.Hash {
	h, _ := filled(30)
	var l []api.Hash
	for at, b := range h.Buckets {
		for i := range b {
			for _, wrong := range []func(e *api.Entry){
				func(e *api.Entry) { e.At.Tile = -1 }, func(e *api.Entry) { e.At.Tile = 64 }, func(e *api.Entry) { e.At.Slot = -1 }, func(e *api.Entry) { e.At.Slot = 8 },
			} {
				other := clone(h, 0)
				wrong(&other.Buckets[at][i])
				l = append(l, other)
			}
			twice := clone(h, 0)
			twice.Buckets[at] = slices.Insert(twice.Buckets[at], i, b[i])
			l = append(l, twice)
		}
		if len(b) > 1 {
			other := clone(h, 0)
			slices.Reverse(other.Buckets[at])
			l = append(l, other)
		}
	}
	long := strings.Repeat("m", 62)
	for _, buckets := range []int{1, 2, 5, 256} {
		l = append(l, indexOf(map[string]api.Place{long: {}}, buckets))
	}
	shapes := []api.Hash{h, h, h, h, h, h}
	shapes[0].Level, shapes[1].Level, shapes[2].Next, shapes[3].Next = h.Level+1, h.Level-1, h.Next+1, -1
	shapes[4].Buckets, shapes[5].Buckets = h.Buckets[:len(h.Buckets)-1], append(slices.Clone(h.Buckets), nil)
	l = append(l, shapes...)
	b := []api.Entry{{Key: "a", At: place(1, 1)}}
	for _, level := range []int{math.MinInt, -64, -1, 0, 1, 8, 9, 62, 63, 64, math.MaxInt} {
		for _, next := range []int{math.MinInt, -1, 0, 1, 255, 256, math.MaxInt} {
			for _, buckets := range []int{0, 3, 255, 600} {
				if level != 1 || next != 1 {
					l = append(l, api.Hash{Level: level, Next: next, Buckets: slices.Repeat([][]api.Entry{b}, buckets)})
				}
			}
		}
	}
	return l
}

func TestRightWrong(t *testing.T) {
	if Right(api.Hash{}) || Right(api.Hash{Buckets: [][]api.Entry{}}) || Right(api.Hash{Level: 1, Buckets: make([][]api.Entry, 1)}) {
		t.Error("one without buckets, or with too few: may be")
	}
	for _, h := range wrongOnes() {
		if Right(h) {
			t.Errorf("%x may be", h)
		}
	}
}

// TestWrongOnes wants all calls on what is no index to end. What hasn't as many buckets as its level makes finds nothing, and stays as it is.
func TestWrongOnes(t *testing.T) {
	for _, h := range append(wrongOnes(), api.Hash{}) {
		shape := h.Level >= 0 && h.Level <= 8 && h.Next >= 0 && h.Next < int(power(h.Level)) && len(h.Buckets) == int(power(h.Level))+h.Next
		for _, key := range []string{"", "a", keyOf(0), keyOf(7), strings.Repeat("m", 62)} {
			answers := []api.Hash{Put(h, key, place(1, 1)), Drop(h, key), Halve(h)}
			_, is := Get(h, key)
			if shape {
				continue
			}
			if is || slices.ContainsFunc(answers, func(a api.Hash) bool { return !same(a, h) }) {
				t.Fatalf("level %d, next %d, %d buckets: %q", h.Level, h.Next, len(h.Buckets), key)
			}
		}
	}
	for _, level := range []int{math.MinInt, -64, -1, 9, 62, 63, 64, math.MaxInt} {
		for _, next := range []int{math.MinInt, -1, 0, 1, math.MaxInt} {
			if got := Where(level, next, "a"); got != 0 {
				t.Errorf("level %d, next %d: %d", level, next, got)
			}
		}
	}
}

// P12.3

// TestPutIsFound wants what was put last of a key to be found, whatever is put, dropped and halved behind it.
func TestPutIsFound(t *testing.T) {
	r := rand.New(rand.NewSource(124))
	for range 600 {
		h, _ := filled(r.Intn(60))
		key, at := anyKey(r), anyPlace(r)
		h = Put(Put(h, key, anyPlace(r)), key, at)
		for range 40 {
			if got, is := Get(h, key); !is || got != at {
				t.Fatalf("%q: %+v, %t, want %+v", key, got, is, at)
			}
			other := anyKey(r)
			switch {
			case r.Intn(4) == 0:
				h = Halve(h)
			case other == key:
			case r.Intn(3) == 0:
				h = Drop(h, other)
			default:
				h = Put(h, other, anyPlace(r))
			}
		}
		h = Drop(h, key)
		wantNone(t, "dropped", h, key)
		h = Put(Halve(h), key, at)
		if got, is := Get(h, key); !is || got != at {
			t.Fatalf("%q, dropped, and put again: %+v, %t", key, got, is)
		}
	}
}

// TestPutIsFoundInAnyOrder puts the same keys in many orders, and wants one index.
func TestPutIsFoundInAnyOrder(t *testing.T) {
	r := rand.New(rand.NewSource(125))
	want, m := filled(70)
	for range 100 {
		h := New()
		for _, n := range r.Perm(70) {
			h = Put(h, keyOf(n), placeOf(n))
		}
		if !same(h, want) {
			t.Fatalf("%x", h)
		}
		wantIndex(t, "in any order", h, m, 18)
		for _, n := range r.Perm(70) {
			if p, is := Get(h, keyOf(n)); !is || p != placeOf(n) {
				t.Fatalf("%d: %+v, %t", n, p, is)
			}
			h = Drop(h, keyOf(n))
		}
		if Count(h) != 0 || len(h.Buckets) != 18 {
			t.Fatalf("%x are left", h)
		}
	}
}

// TestPutIsFoundWhenFull goes on beyond as many entries as make buckets.
func TestPutIsFoundWhenFull(t *testing.T) {
	h, m := filled(1024)
	for n := range 300 {
		key := order.Key(api.Value{Kind: api.KindBytes, S: strconv.Itoa(n)})
		h = Put(h, key, placeOf(n))
		m[key] = placeOf(n)
		if n%2 == 0 {
			h = Drop(h, keyOf(n))
			delete(m, keyOf(n))
		}
	}
	wantIndex(t, "full", h, m, 256)
}

func TestManyAtOnce(t *testing.T) {
	shared, _ := filled(100)
	var all sync.WaitGroup
	for i := range 8 {
		all.Go(func() {
			r := rand.New(rand.NewSource(int64(126 + i)))
			for range 200 {
				n := r.Intn(100)
				moved := anyPlace(r)
				if at, is := Get(shared, keyOf(n)); !is || at != placeOf(n) {
					t.Errorf("goroutine %d: %d at %+v", i, n, at)
				}
				if at, is := Get(Put(shared, keyOf(n), moved), keyOf(n)); !is || at != moved || Count(Drop(shared, keyOf(n))) != 99 {
					t.Errorf("goroutine %d: %d, moved, at %+v", i, n, at)
				}
				if g := Halve(shared); !Right(shared) || !Right(g) || Count(g) != 100 || Where(shared.Level, shared.Next, keyOf(n)) >= 25 {
					t.Errorf("goroutine %d: another index", i)
				}
			}
		})
	}
	all.Wait()
}
