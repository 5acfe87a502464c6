package bucket

import (
	"encoding/binary"
	"maps"
	"math"
	"math/rand"
	"slices"
	"strings"
	"sync"
	"testing"

	"mosaicist/api"
	"mosaicist/order"
)

// entry is a key's, at a tile and a slot.
func entry(key string, tile, slot int) api.Entry {
	return api.Entry{Key: key, At: api.Place{Tile: tile, Slot: slot}}
}

// long is so many bytes, those of a key of bytes.
func long(size int) string { return "\x03" + strings.Repeat("m", size-1) }

// full is a bucket of so many entries, of keys of two bytes, each in a place of its own.
func full(size int) []api.Entry {
	var b []api.Entry
	for i := range size {
		b = append(b, entry(string([]byte{byte(i / 256), byte(i)}), i/8%64, i%8))
	}
	return b
}

// two is the bucket of the chapter's example.
var two = []api.Entry{entry("a", 0, 0), entry("b", 1, 2)}

// forms are buckets that may be, and their bytes, as the chapter tells them.
var forms = []struct {
	b    []api.Entry
	form string
}{
	{nil, "\x00"},
	{two, "\x04\x02a\x00\x02b\x14"},
	{[]api.Entry{entry("", 0, 0)}, "\x02\x00\x00"},
	{[]api.Entry{entry("", 63, 7)}, "\x02\x00\xfe\x07"},
	{[]api.Entry{entry("k", 0, 1)}, "\x02\x02k\x02"},
	{[]api.Entry{entry("k", 0, 7)}, "\x02\x02k\x0e"},
	{[]api.Entry{entry("k", 1, 0)}, "\x02\x02k\x10"},
	{[]api.Entry{entry("k", 7, 7)}, "\x02\x02k\x7e"},
	{[]api.Entry{entry("k", 8, 0)}, "\x02\x02k\x80\x01"},
	{[]api.Entry{entry("k", 63, 0)}, "\x02\x02k\xf0\x07"},
	{[]api.Entry{entry("", 0, 1), entry("\x00", 0, 1), entry("\x00\x00", 0, 1)}, "\x06\x00\x02\x02\x00\x02\x04\x00\x00\x02"},
	{[]api.Entry{entry("a", 9, 3), entry("aa", 2, 5), entry("ab", 9, 3), entry("b", 0, 0)}, "\x08\x02a\x96\x01\x04aa\x2a\x04ab\x96\x01\x02b\x00"},
	{[]api.Entry{entry("A", 0, 0), entry("a", 0, 0), entry("\x7f", 0, 0), entry("\x80", 0, 0), entry("\xff", 0, 0)}, "\x0a\x02A\x00\x02a\x00\x02\x7f\x00\x02\x80\x00\x02\xff\x00"},
	{[]api.Entry{entry(long(60), 1, 1), entry(long(61), 1, 2)}, "\x04\x78" + long(60) + "\x12\x7a" + long(61) + "\x14"},
	{[]api.Entry{entry("\x01\x80\x00\x00\x00\x00\x00\x00\x07", 5, 5)}, "\x02\x12\x01\x80\x00\x00\x00\x00\x00\x00\x07\x5a"},
}

// wrongPlaces are places that may not be, each for its tile, its slot, or both.
var wrongPlaces = []api.Place{
	{Tile: -1}, {Tile: 64}, {Tile: 65}, {Tile: 128}, {Tile: 255}, {Tile: 256}, {Tile: 320}, {Tile: 1 << 32}, {Tile: 1 << 61}, {Tile: 1 << 62},
	{Tile: math.MaxInt}, {Tile: math.MinInt}, {Tile: -64}, {Tile: -1, Slot: 7}, {Tile: 64, Slot: 7},
	{Slot: -1}, {Slot: 8}, {Slot: 9}, {Slot: 16}, {Slot: 63}, {Slot: 64}, {Slot: 255}, {Slot: 256}, {Slot: 1 << 32}, {Slot: math.MaxInt}, {Slot: math.MinInt},
	{Slot: -8}, {Tile: 63, Slot: 8}, {Tile: 63, Slot: -1}, {Tile: 5, Slot: -1}, {Tile: 5, Slot: 8}, {Tile: -1, Slot: 8}, {Tile: 64, Slot: -1}, {Tile: 1, Slot: -8},
}

// wrongKeys are keys that may not be.
var wrongKeys = []string{long(62), long(63), long(64), long(122), long(128), long(256), long(256 + 61), long(317), long(1 << 16), strings.Repeat("\x00", 62)}

// unordered are lists whose keys don't rise.
var unordered = [][]api.Entry{
	{entry("b", 0, 0), entry("a", 0, 1)}, {entry("a", 0, 0), entry("a", 0, 0)}, {entry("a", 0, 0), entry("a", 0, 1)}, {entry("", 0, 0), entry("", 0, 1)},
	{entry("aa", 0, 0), entry("a", 0, 1)}, {entry("a", 0, 0), entry("", 0, 1)}, {entry("\x80", 0, 0), entry("\x7f", 0, 1)}, {entry("a", 0, 0), entry("A", 0, 1)},
	{entry("a", 0, 0), entry("c", 0, 1), entry("b", 0, 2)}, {entry("b", 0, 0), entry("a", 0, 1), entry("c", 0, 2)}, {entry("a", 0, 0), entry("b", 0, 1), entry("a", 0, 2)},
	{entry("a", 0, 0), entry("b", 0, 1), entry("b", 0, 2)}, {entry("a", 0, 0), entry("a", 0, 1), entry("b", 0, 2)}, {entry(long(61), 0, 0), entry(long(60), 0, 1)},
	{entry("c", 0, 0), entry("b", 0, 1), entry("a", 0, 2)}, {entry("a", 0, 0), entry("c", 0, 1), entry("d", 0, 2), entry("b", 0, 3)},
}

// wrongOnes are lists that are no bucket that may be, each for one reason.
func wrongOnes() [][]api.Entry {
	l := slices.Clone(unordered)
	for _, p := range wrongPlaces {
		wrong := api.Entry{Key: "k", At: p}
		l = append(l, []api.Entry{wrong}, []api.Entry{entry("a", 0, 0), wrong}, []api.Entry{wrong, entry("z", 0, 0)}, []api.Entry{entry("a", 0, 0), wrong, entry("z", 0, 0)})
	}
	for _, key := range wrongKeys {
		l = append(l, []api.Entry{entry(key, 0, 0)}, []api.Entry{entry("", 0, 0), entry(key, 0, 0)}, []api.Entry{entry(key, 0, 0), entry("\xff", 0, 0)})
	}
	return append(l, full(513), full(514), full(1024), full(1<<16))
}

// same tells whether two lists are alike.
func same(a, b []api.Entry) bool { return slices.Equal(a, b) }

// listOf is the bucket of what a map holds.
func listOf(m map[string]api.Place) []api.Entry {
	var b []api.Entry
	for _, key := range slices.Sorted(maps.Keys(m)) {
		b = append(b, api.Entry{Key: key, At: m[key]})
	}
	return b
}

// bytesOf tells the bytes of a list by another way.
func bytesOf(b []api.Entry) string {
	text := binary.AppendVarint(nil, int64(len(b)))
	for _, e := range b {
		text = binary.AppendVarint(text, int64(len(e.Key)))
		text = append(text, e.Key...)
		text = binary.AppendVarint(text, int64(e.At.Tile)<<3+int64(e.At.Slot))
	}
	return string(text)
}

// anyKey is a key, mostly a short one, so that some are alike.
func anyKey(r *rand.Rand) string {
	key := make([]byte, r.Intn(1+r.Intn(1+r.Intn(62))))
	for i := range key {
		key[i] = "\x00\x01ab\x7f\x80\xff"[r.Intn(7)]
	}
	return string(key)
}

// anyPlace is a place that may be.
func anyPlace(r *rand.Rand) api.Place { return api.Place{Tile: r.Intn(64), Slot: r.Intn(8)} }

// anyOne is a bucket that may be, of at most so many entries.
func anyOne(r *rand.Rand, most int) []api.Entry {
	m := map[string]api.Place{}
	for range r.Intn(most + 1) {
		m[anyKey(r)] = anyPlace(r)
	}
	return listOf(m)
}

// wantMap wants a bucket to be just what a map holds, and each of its keys to be found.
func wantMap(t *testing.T, what string, b []api.Entry, m map[string]api.Place) {
	t.Helper()
	if want := listOf(m); !same(b, want) {
		t.Fatalf("%s: %x, want %x", what, b, want)
	}
	for key, want := range m {
		if got, is := Find(b, key); !is || got != want {
			t.Fatalf("%s: %q is at %+v, %t, want %+v", what, key, got, is, want)
		}
	}
}

// P11.1

func TestFind(t *testing.T) {
	for _, c := range forms {
		for _, e := range c.b {
			if got, is := Find(c.b, e.Key); !is || got != e.At {
				t.Errorf("%q in %x: %+v, %t", e.Key, c.b, got, is)
			}
		}
	}
	b := full(512)
	for _, e := range b {
		if got, is := Find(b, e.Key); !is || got != e.At {
			t.Errorf("%q of 512: %+v, %t, want %+v", e.Key, got, is, e.At)
		}
	}
}

// TestFindNone asks for keys that are near those that are there.
func TestFindNone(t *testing.T) {
	b := []api.Entry{entry("\x00", 1, 1), entry("a", 2, 2), entry("ab", 3, 3), entry("abcd", 4, 4), entry("b", 5, 5), entry("\x80", 6, 6), entry(long(61), 7, 7)}
	slices.SortFunc(b, func(x, y api.Entry) int { return strings.Compare(x.Key, y.Key) })
	for _, key := range []string{"", "\x00\x00", "\x01", "A", "B", "aa", "aab", "abc", "abce", "abcdd", "abcd\x00", "a\x00", "ac", "ba", "b\x00", "c", "\x7f", "\x81", "\x80\x80", "\xff", long(60), long(62)} {
		if got, is := Find(b, key); is || got != (api.Place{}) {
			t.Errorf("%q: %+v, %t", key, got, is)
		}
	}
	for _, none := range [][]api.Entry{nil, {}} {
		for _, key := range []string{"", "\x00", "a", long(61), long(62)} {
			if got, is := Find(none, key); is || got != (api.Place{}) {
				t.Errorf("%q in an empty bucket: %+v, %t", key, got, is)
			}
		}
	}
}

// TestFindAnyPlace wants a place to be told as it stands, and a key of any length to be found: only Right asks whether these may be.
func TestFindAnyPlace(t *testing.T) {
	for _, p := range wrongPlaces {
		b := []api.Entry{entry("a", 1, 1), {Key: "k", At: p}, entry("z", 2, 2)}
		if got, is := Find(b, "k"); !is || got != p {
			t.Errorf("%+v: %+v, %t", p, got, is)
		}
	}
	for _, key := range wrongKeys {
		if got, is := Find([]api.Entry{entry("", 1, 1), entry(key, 2, 3)}, key); !is || got != (api.Place{Tile: 2, Slot: 3}) {
			t.Errorf("a key of %d bytes: %+v, %t", len(key), got, is)
		}
	}
}

func TestPut(t *testing.T) {
	a, b, c := entry("a", 0, 0), entry("b", 1, 2), entry("c", 5, 7)
	for _, x := range []struct {
		what string
		b    []api.Entry
		e    api.Entry
		want []api.Entry
	}{
		{"into none", nil, a, []api.Entry{a}}, {"into an empty one", []api.Entry{}, a, []api.Entry{a}}, {"of no bytes into none", nil, entry("", 3, 3), []api.Entry{entry("", 3, 3)}},
		{"ahead", []api.Entry{b}, a, []api.Entry{a, b}}, {"behind", []api.Entry{a}, b, []api.Entry{a, b}}, {"between", []api.Entry{a, c}, b, []api.Entry{a, b, c}},
		{"ahead of two", []api.Entry{b, c}, a, []api.Entry{a, b, c}}, {"behind two", []api.Entry{a, b}, c, []api.Entry{a, b, c}},
		{"of no bytes", []api.Entry{a, b}, entry("", 4, 4), []api.Entry{entry("", 4, 4), a, b}},
		{"in the place of the only one", []api.Entry{a}, entry("a", 9, 1), []api.Entry{entry("a", 9, 1)}},
		{"in the place of the first one", []api.Entry{a, b, c}, entry("a", 9, 1), []api.Entry{entry("a", 9, 1), b, c}},
		{"in the place of the middle one", []api.Entry{a, b, c}, entry("b", 9, 1), []api.Entry{a, entry("b", 9, 1), c}},
		{"in the place of the last one", []api.Entry{a, b, c}, entry("c", 9, 1), []api.Entry{a, b, entry("c", 9, 1)}},
		{"once more", []api.Entry{a, b, c}, b, []api.Entry{a, b, c}},
		{"another tile alone", []api.Entry{a, b}, entry("b", 2, 2), []api.Entry{a, entry("b", 2, 2)}}, {"another slot alone", []api.Entry{a, b}, entry("b", 1, 3), []api.Entry{a, entry("b", 1, 3)}},
		{"at tile 0, slot 0", []api.Entry{a, b}, entry("b", 0, 0), []api.Entry{a, entry("b", 0, 0)}},
		{"one that begins as the first", []api.Entry{a, b}, entry("aa", 1, 1), []api.Entry{a, entry("aa", 1, 1), b}},
		{"one that another begins with", []api.Entry{entry("ab", 1, 1), b}, a, []api.Entry{a, entry("ab", 1, 1), b}},
		{"by bytes without signs", []api.Entry{entry("\x7f", 1, 1), entry("\xff", 2, 2)}, entry("\x80", 3, 3), []api.Entry{entry("\x7f", 1, 1), entry("\x80", 3, 3), entry("\xff", 2, 2)}},
		{"a nought behind", []api.Entry{a, b}, entry("a\x00", 6, 6), []api.Entry{a, entry("a\x00", 6, 6), b}},
		{"large ahead of small", []api.Entry{a, b}, entry("B", 6, 6), []api.Entry{entry("B", 6, 6), a, b}},
		{"one too long", []api.Entry{a, b}, entry("a"+long(62), 6, 6), []api.Entry{a, entry("a"+long(62), 6, 6), b}},
	} {
		if got := Put(x.b, x.e); !same(got, x.want) {
			t.Errorf("%s: %x, want %x", x.what, got, x.want)
		}
	}
}

// TestPutAnyPlace wants an entry to be put as it stands: only Right asks whether it may be.
func TestPutAnyPlace(t *testing.T) {
	for _, p := range wrongPlaces {
		e := api.Entry{Key: "aa", At: p}
		if got := Put(two, e); !same(got, []api.Entry{two[0], e, two[1]}) {
			t.Errorf("%+v: %x", p, got)
		}
		if got := Put([]api.Entry{two[0], e}, entry("aa", 3, 3)); !same(got, []api.Entry{two[0], entry("aa", 3, 3)}) {
			t.Errorf("in the place of %+v: %x", p, got)
		}
	}
}

// TestPutIntoMany puts a key into each place of a bucket, beyond as many entries as there may be as well.
func TestPutIntoMany(t *testing.T) {
	for _, size := range []int{1, 2, 3, 4, 5, 8, 9, 64, 511, 512, 600} {
		b := full(size)
		for at, e := range b {
			e.At = api.Place{Tile: 63 - e.At.Tile, Slot: 7 - e.At.Slot}
			want := slices.Clone(b)
			want[at] = e
			if got := Put(b, e); !same(got, want) {
				t.Errorf("the %d. of %d again: %d entries", at, size, len(got))
			}
			e.Key += "\x00"
			if got := Put(b, e); !same(got, slices.Concat(b[:at+1], []api.Entry{e}, b[at+1:])) {
				t.Errorf("behind the %d. of %d: %d entries", at, size, len(got))
			}
		}
		if got := Put(b, entry("", 3, 5)); !same(got, slices.Concat([]api.Entry{entry("", 3, 5)}, b)) {
			t.Errorf("ahead of %d: %d entries", size, len(got))
		}
	}
}

func TestDrop(t *testing.T) {
	for _, size := range []int{1, 2, 3, 4, 5, 64, 512, 600} {
		b := full(size)
		for at, e := range b {
			if got := Drop(b, e.Key); !same(got, slices.Concat(b[:at], b[at+1:])) {
				t.Errorf("the %d. of %d: %d entries are left", at, size, len(got))
			}
			for _, key := range []string{e.Key + "\x00", e.Key[:1], e.Key + e.Key, "\xff" + e.Key} {
				if got := Drop(b, key); !same(got, b) {
					t.Errorf("%q of %d, beside the %d.: %d entries are left", key, size, at, len(got))
				}
			}
		}
	}
	for _, key := range []string{"", "z", "aa", "A", long(61), long(62)} {
		if got := Drop(two, key); !same(got, two) {
			t.Errorf("%q: %x", key, got)
		}
		if got := Drop(nil, key); len(got) != 0 {
			t.Errorf("%q of none: %x", key, got)
		}
		if got := Drop([]api.Entry{}, key); len(got) != 0 {
			t.Errorf("%q of an empty one: %x", key, got)
		}
	}
	if got := Drop([]api.Entry{entry("", 1, 1), entry("a", 0, 0)}, ""); !same(got, two[:1]) {
		t.Errorf("the key of no bytes: %x", got)
	}
	for _, key := range wrongKeys {
		if got := Drop([]api.Entry{two[0], entry("a"+key, -1, 8), two[1]}, "a"+key); !same(got, two) {
			t.Errorf("a key of %d bytes: %d entries", len(key)+1, len(got))
		}
	}
}

// TestAsAMap goes on with one bucket, beside a map of the same entries.
func TestAsAMap(t *testing.T) {
	r := rand.New(rand.NewSource(111))
	for range 200 {
		var b []api.Entry
		m := map[string]api.Place{}
		for range 100 {
			key := anyKey(r)
			at, there := m[key]
			if got, is := Find(b, key); is != there || got != at {
				t.Fatalf("%q: %+v, %t, want %+v, %t", key, got, is, at, there)
			}
			if r.Intn(3) == 0 {
				b = Drop(b, key)
				delete(m, key)
			} else {
				e := api.Entry{Key: key, At: anyPlace(r)}
				b = Put(b, e)
				m[key] = e.At
			}
			wantMap(t, "going on", b, m)
			if !Right(b) {
				t.Fatalf("%x may not be", b)
			}
		}
	}
}

// TestHandedInStays wants neither what is handed in nor its spare room to be changed, and answers to be free of later changes.
func TestHandedInStays(t *testing.T) {
	for _, size := range []int{0, 1, 2, 3, 8, 512} {
		all := full(size + 3)
		b, was := all[:size], slices.Clone(all)
		for at := range was[:size+1] {
			e := api.Entry{Key: was[at].Key, At: api.Place{Tile: 42, Slot: 2}}
			between := api.Entry{Key: e.Key + "\x00", At: e.At}
			answers := [][]api.Entry{Put(b, e), Put(b, between), Put(b, entry("", 1, 1)), Drop(b, e.Key), Drop(b, between.Key)}
			Find(b, e.Key)
			Right(b)
			Print(b)
			if !same(all, was) {
				t.Fatalf("a bucket of %d has changed at %d", size, at)
			}
			for i, a := range answers {
				clear(a[:cap(a)])
				if !same(all, was) {
					t.Fatalf("answer %d shares memory with a bucket of %d", i, size)
				}
			}
		}
	}
}

// TestUnordered wants calls on what is no bucket to end, and these lists to stay as they are; of which places they tell is free.
func TestUnordered(t *testing.T) {
	for _, b := range wrongOnes() {
		was := slices.Clone(b)
		for _, key := range []string{"", "a", "aa", "b", "k", "z", "\xff", long(61), long(62)} {
			Find(b, key)
			Put(b, entry(key, 1, 1))
			Drop(b, key)
		}
		if !same(b, was) {
			t.Errorf("%.200q has changed", Print(was))
		}
	}
}

// P11.2

func TestRight(t *testing.T) {
	for _, c := range forms {
		if !Right(c.b) {
			t.Errorf("%x may not be", c.b)
		}
	}
	for _, b := range wrongOnes() {
		if Right(b) {
			t.Errorf("%.200q may be", Print(b))
		}
	}
	if !Right([]api.Entry{}) {
		t.Error("an empty bucket may not be")
	}
	r := rand.New(rand.NewSource(112))
	for range 2000 {
		if b := anyOne(r, 40); !Right(b) {
			t.Fatalf("%x may not be", b)
		}
	}
}

// TestRightByEachPlace goes through tiles and slots, far beyond those that may be.
func TestRightByEachPlace(t *testing.T) {
	for tile := -70; tile < 600; tile++ {
		for slot := -20; slot < 80; slot++ {
			want := tile >= 0 && tile < 64 && slot >= 0 && slot < 8
			e := entry("k", tile, slot)
			for _, b := range [][]api.Entry{{e}, {entry("a", 1, 1), e}, {e, entry("z", 1, 1)}} {
				if Right(b) != want {
					t.Fatalf("%x: %t", b, !want)
				}
			}
		}
	}
}

// TestRightByHowMany goes through how many entries there are.
func TestRightByHowMany(t *testing.T) {
	for size := range 1100 {
		if got := Right(full(size)); got != (size <= 512) {
			t.Errorf("%d entries: %t", size, got)
		}
	}
}

// TestRightByLength goes through how long keys are, in each place of a bucket.
func TestRightByLength(t *testing.T) {
	for size := range 400 {
		key := strings.Repeat("m", size)
		for _, b := range [][]api.Entry{{entry(key, 0, 0)}, {entry(key, 0, 0), entry("z", 0, 0)}, {entry("\x00", 0, 0), entry("a"+key, 0, 0)}} {
			want := len(b[0].Key) <= 61 && len(b[len(b)-1].Key) <= 61
			if Right(b) != want {
				t.Errorf("%d bytes, of %d: %t", size, len(b), !want)
			}
		}
	}
}

// TestRightByOrder swaps two entries of a bucket, or gives them one key.
func TestRightByOrder(t *testing.T) {
	b := full(20)
	for i := range b {
		for j := range i {
			swapped := slices.Clone(b)
			swapped[i], swapped[j] = swapped[j], swapped[i]
			alike := slices.Clone(b)
			alike[i].Key = alike[j].Key
			if Right(swapped) || Right(alike) {
				t.Errorf("%d and %d, swapped, or of one key: may be", j, i)
			}
		}
	}
	// Places needn't rise, nor be unlike.
	if !Right([]api.Entry{entry("a", 63, 7), entry("b", 0, 0), entry("c", 63, 7)}) {
		t.Error("places that fall, and one twice: may not be")
	}
}

func TestPrint(t *testing.T) {
	for _, c := range forms {
		if got := Print(c.b); got != c.form {
			t.Errorf("%x: %x, want %x", c.b, got, c.form)
		}
	}
	if got := Print([]api.Entry{}); got != "\x00" {
		t.Errorf("an empty bucket: %x", got)
	}
	r := rand.New(rand.NewSource(113))
	for range 2000 {
		b := anyOne(r, 40)
		if got, want := Print(b), bytesOf(b); got != want {
			t.Fatalf("%x: %x, want %x", b, got, want)
		}
	}
	if got := Print(full(512)); got != bytesOf(full(512)) || !strings.HasPrefix(got, "\x80\x08\x04\x00\x00\x00\x04\x00\x01\x02") {
		t.Errorf("512 entries: %.60x", got)
	}
}

// TestPrintOfWrong wants bytes of a bucket that may not be, too: the chapter excepts none.
func TestPrintOfWrong(t *testing.T) {
	for _, c := range []struct {
		b    []api.Entry
		form string
	}{
		{[]api.Entry{entry("b", 0, 0), entry("a", 0, 1)}, "\x04\x02b\x00\x02a\x02"}, {[]api.Entry{entry("a", 0, 0), entry("a", 0, 0)}, "\x04\x02a\x00\x02a\x00"},
		{[]api.Entry{entry("k", 64, 0)}, "\x02\x02k\x80\x08"}, {[]api.Entry{entry("k", -1, 0)}, "\x02\x02k\x0f"}, {[]api.Entry{entry("k", 0, -1)}, "\x02\x02k\x01"},
		{[]api.Entry{entry("k", 0, 8)}, "\x02\x02k\x10"}, {[]api.Entry{entry("k", 1, -1)}, "\x02\x02k\x0e"}, {[]api.Entry{entry(long(62), 0, 0)}, "\x02\x7c" + long(62) + "\x00"},
		{[]api.Entry{entry("k", math.MinInt, 3)}, "\x02\x02k\x06"}, {[]api.Entry{entry("k", 0, math.MaxInt)}, "\x02\x02k\xfe\xff\xff\xff\xff\xff\xff\xff\xff\x01"},
	} {
		if got := Print(c.b); got != c.form {
			t.Errorf("%x: %x, want %x", c.b, got, c.form)
		}
	}
	for _, b := range wrongOnes() {
		if got, want := Print(b), bytesOf(b); got != want {
			t.Errorf("%.60x, want %.60x", got, want)
		}
	}
}

// wantNone wants s to be no bucket's bytes.
func wantNone(t *testing.T, what, s string) {
	t.Helper()
	if got, is := Parse(s); is || len(got) != 0 {
		t.Errorf("%s, %.90x: %.90q, %t", what, s, Print(got), is)
	}
}

func TestParse(t *testing.T) {
	for _, c := range forms {
		if got, is := Parse(c.form); !is || !same(got, c.b) {
			t.Errorf("%x: %x, %t, want %x", c.form, got, is, c.b)
		}
	}
	for size := range 520 {
		b := full(size)
		got, is := Parse(bytesOf(b))
		if want := size <= 512; is != want || want && !same(got, b) || !want && len(got) != 0 {
			t.Errorf("%d entries: %d, %t", size, len(got), is)
		}
	}
}

// TestParseEachPlace reads each number of a place, and those beyond.
func TestParseEachPlace(t *testing.T) {
	for n := -600; n < 1200; n++ {
		got, is := Parse("\x02\x02k" + string(binary.AppendVarint(nil, int64(n))))
		want := n >= 0 && n < 512
		if is != want || want && !same(got, []api.Entry{entry("k", n/8, n%8)}) || !want && len(got) != 0 {
			t.Errorf("%d: %x, %t", n, got, is)
		}
	}
}

func TestParseWrong(t *testing.T) {
	for _, c := range []struct{ what, form string }{
		{"nothing", ""}, {"a letter", "x"}, {"no number", "\x80"}, {"no number of many bytes", strings.Repeat("\x80", 20)}, {"one more byte behind none", "\x00\x00"}, {"none, twice over", "\x00\x00\x00"},
		{"fewer than none", "\x01"}, {"one, and nothing", "\x02"}, {"no key's length", "\x02\x80"}, {"no key", "\x02\x02"}, {"a key below none", "\x02\x01k\x00"}, {"no place", "\x02\x02k"}, {"half a place", "\x02\x02k\x80"},
		{"one too few", "\x06\x02a\x00\x02b\x14"}, {"one too many", "\x02\x02a\x00\x02b\x14"}, {"a byte behind", "\x04\x02a\x00\x02b\x14\x00"}, {"falling", "\x04\x02b\x14\x02a\x00"},
		{"twice", "\x04\x02a\x00\x02a\x00"}, {"twice, elsewhere", "\x04\x02a\x00\x02a\x02"}, {"falling at the end", "\x06\x02a\x00\x02c\x00\x02b\x00"}, {"the key of no bytes behind", "\x04\x02a\x00\x00\x00"},
		{"a key of 62", "\x02\x7c" + long(62) + "\x00"}, {"a key of 64", "\x02\x80\x01" + long(64) + "\x00"}, {"a place of 512", "\x02\x02k\x80\x08"}, {"a place of -1", "\x02\x02k\x01"},
		{"how many, not as few bytes", "\x80\x00"}, {"one, not as few bytes", "\x82\x00\x02k\x00"}, {"a length, not as few bytes", "\x02\x82\x00k\x00"}, {"a place, not as few bytes", "\x02\x02k\x80\x00"},
		{"many, and nothing", "\x80\x08"}, {"too many, and nothing", "\x82\x08"}, {"the greatest number", "\xfe\xff\xff\xff\xff\xff\xff\xff\xff\x01"}, {"the least number", "\xff\xff\xff\xff\xff\xff\xff\xff\xff\x01"},
		{"the greatest length", "\x02\xfe\xff\xff\xff\xff\xff\xff\xff\xff\x01k\x00"}, {"a text, and no bucket", "two entries"}, {"noughts", strings.Repeat("\x00", 200)},
	} {
		wantNone(t, c.what, c.form)
	}
	for _, b := range wrongOnes() {
		// What has the bytes of another one may be that one: of tile 1, slot -8, these are the first place's.
		if got, is := Parse(bytesOf(b)); is && (same(got, b) || bytesOf(got) != bytesOf(b)) {
			t.Errorf("%.90x: %x", bytesOf(b), got)
		}
	}
	for _, b := range unordered {
		wantNone(t, "unordered", bytesOf(b))
	}
	for _, size := range []int{513, 514, 600, 1024, 1 << 16} {
		wantNone(t, "too many", bytesOf(full(size)))
	}
}

// TestParsePieces wants no piece of a bucket's bytes, and nothing behind them, to be taken for it.
func TestParsePieces(t *testing.T) {
	for _, c := range forms {
		for size := range len(c.form) {
			wantNone(t, "a piece", c.form[:size])
		}
		for _, more := range []string{"\x00", "x", "\x02", "\x80", c.form} {
			wantNone(t, "more behind", c.form+more)
		}
	}
}

// wantOneForm wants s, if it is a bucket's bytes, to be just that one's.
func wantOneForm(t *testing.T, s string) (is bool) {
	t.Helper()
	b, is := Parse(s)
	if !is && len(b) != 0 {
		t.Fatalf("%x is none, and %x", s, b)
	}
	if is && (!Right(b) || Print(b) != s || bytesOf(b) != s) {
		t.Fatalf("%x reads as %x, whose bytes are %x", s, b, Print(b))
	}
	return is
}

// TestOneFormOfEachByte puts each byte into each place of a few buckets' bytes.
func TestOneFormOfEachByte(t *testing.T) {
	good := 0
	for _, c := range forms {
		for at := range len(c.form) {
			for b := range 256 {
				form := []byte(c.form)
				form[at] = byte(b)
				if wantOneForm(t, string(form)) {
					good++
				}
			}
		}
	}
	if good < 1000 {
		t.Errorf("only %d of them are buckets", good)
	}
}

func TestOneFormOfAnyBytes(t *testing.T) {
	r := rand.New(rand.NewSource(114))
	for range 100000 {
		b := make([]byte, r.Intn(16))
		for i := range b {
			b[i] = "\x00\x01\x02\x02\x04\x06\x80ab"[r.Intn(9)]
		}
		wantOneForm(t, string(b))
		wantOneForm(t, "\x02\x02"+string(b))
	}
	for range 20000 {
		form := []byte(Print(anyOne(r, 6)))
		form[r.Intn(len(form))] ^= byte(1 + r.Intn(255))
		wantOneForm(t, string(form))
	}
}

// TestParseIsNew wants one answer to be free of another's changes.
func TestParseIsNew(t *testing.T) {
	form := Print(two)
	first, _ := Parse(form)
	second, _ := Parse(form)
	clear(first)
	third, _ := Parse(form)
	if !same(second, two) || !same(third, two) {
		t.Errorf("beside one that was changed: %x, %x", second, third)
	}
}

// P11.3

// TestPutIsFound wants what was put last of a key to be found, whatever is put and dropped of other keys behind it.
func TestPutIsFound(t *testing.T) {
	r := rand.New(rand.NewSource(115))
	for range 3000 {
		b := anyOne(r, 20)
		key, at := anyKey(r), anyPlace(r)
		b = Put(Put(b, api.Entry{Key: key, At: anyPlace(r)}), api.Entry{Key: key, At: at})
		for range 10 {
			if got, is := Find(b, key); !is || got != at {
				t.Fatalf("%q: %+v, %t, want %+v", key, got, is, at)
			}
			other := anyKey(r)
			if other == key {
				continue
			}
			if r.Intn(2) == 0 {
				b = Drop(b, other)
			} else {
				b = Put(b, api.Entry{Key: other, At: anyPlace(r)})
			}
		}
		b = Drop(b, key)
		if got, is := Find(b, key); is || got != (api.Place{}) {
			t.Fatalf("%q, dropped: %+v, %t", key, got, is)
		}
	}
}

// TestPutIsFoundInAnyOrder puts the same entries in many orders, and wants one bucket.
func TestPutIsFoundInAnyOrder(t *testing.T) {
	r := rand.New(rand.NewSource(116))
	want := full(60)
	for range 200 {
		var b []api.Entry
		for _, at := range r.Perm(60) {
			b = Put(b, want[at])
		}
		if !same(b, want) {
			t.Fatalf("%x", b)
		}
		for _, at := range r.Perm(60) {
			if p, is := Find(b, want[at].Key); !is || p != want[at].At {
				t.Fatalf("%q: %+v, %t", want[at].Key, p, is)
			}
			b = Drop(b, want[at].Key)
		}
		if len(b) != 0 {
			t.Fatalf("%x are left", b)
		}
	}
}

// TestKeysOfValues puts keys as layer 7 makes them; the longest one is just as long as may be.
func TestKeysOfValues(t *testing.T) {
	var b []api.Entry
	m := map[string]api.Place{}
	for i, v := range []api.Value{
		{Kind: api.KindInt, N: -1}, {Kind: api.KindInt, N: 1}, {Kind: api.KindInt}, {Kind: api.KindInt, N: math.MinInt}, {Kind: api.KindInt, N: math.MaxInt},
		{Kind: api.KindBytes}, {Kind: api.KindBytes, S: "ab"}, {Kind: api.KindBytes, S: strings.Repeat("\xff", 60)}, {Kind: api.KindBytes, S: "a"}, {Kind: api.KindInt, N: -1},
	} {
		e := api.Entry{Key: order.Key(v), At: api.Place{Tile: i, Slot: 7 - i%8}}
		b = Put(b, e)
		m[e.Key] = e.At
	}
	wantMap(t, "keys of values", b, m)
	if got, is := Parse(Print(b)); !is || !same(got, b) || !Right(b) || len(b) != 9 {
		t.Errorf("there and back: %x, %t", got, is)
	}
}

func TestThereAndBack(t *testing.T) {
	r := rand.New(rand.NewSource(117))
	for range 3000 {
		b := anyOne(r, 40)
		got, is := Parse(Print(b))
		if !is || !same(got, b) {
			t.Fatalf("%x: there and back %x, %t", b, got, is)
		}
		for _, e := range b {
			if at, is := Find(got, e.Key); !is || at != e.At {
				t.Fatalf("%q, there and back: %+v, %t", e.Key, at, is)
			}
		}
	}
}

func TestManyAtOnce(t *testing.T) {
	shared := full(100)
	var all sync.WaitGroup
	for i := range 8 {
		all.Go(func() {
			r := rand.New(rand.NewSource(int64(118 + i)))
			for range 300 {
				e := shared[r.Intn(100)]
				moved := api.Entry{Key: e.Key, At: anyPlace(r)}
				if at, is := Find(shared, e.Key); !is || at != e.At {
					t.Errorf("goroutine %d: %q at %+v", i, e.Key, at)
				}
				if at, is := Find(Put(shared, moved), e.Key); !is || at != moved.At || len(Drop(shared, e.Key)) != 99 {
					t.Errorf("goroutine %d: %q, moved, at %+v", i, e.Key, at)
				}
				if got, is := Parse(Print(shared)); !is || !same(got, shared) || !Right(shared) {
					t.Errorf("goroutine %d: another bucket", i)
				}
			}
		})
	}
	all.Wait()
}
