package catalog

import (
	"encoding/binary"
	"math"
	"math/rand"
	"slices"
	"strings"
	"sync"
	"testing"

	"mosaicist/api"
	"mosaicist/blob"
	"mosaicist/clock"
	"mosaicist/head"
	"mosaicist/leaf"
	"mosaicist/slab"
	"mosaicist/store"
)

// mostName is a name of as many letters as there may be.
const mostName = "abcdefghijklmnopqrst"

// schemaOf is a schema of so many columns, of all kinds.
func schemaOf(name string, cols int) api.Schema {
	s := api.Schema{Name: name}
	for i := range cols {
		c := api.Col{Name: "c" + mostName[i:i+1], Kind: 1 + i%3, Null: i%2 == 1}
		s.Cols = append(s.Cols, c)
	}
	return s
}

// pagesOf are so many pages from 1 to 511; another seed has others.
func pagesOf(n, seed int) []int {
	var l []int
	for i := range n {
		l = append(l, 1+(i*37+seed*101)%511)
	}
	return l
}

// tableOf is a table that may be.
func tableOf(name string, tiles, level, next int) api.Table {
	return api.Table{Schema: schemaOf(name, 1+(tiles+level)%8), Tiles: pagesOf(tiles, next), Level: level, Next: next, Buckets: pagesOf(1<<level+next, tiles)}
}

// idOf is a table of one column, two tiles and one bucket.
func idOf(name string) api.Table {
	return api.Table{Schema: api.Schema{Name: name, Cols: []api.Col{{Name: "id", Kind: api.KindInt}}}, Tiles: []int{3, 511}, Buckets: []int{1}}
}

// greatest is a catalog of as many bytes as one may have.
func greatest() []api.Table {
	var l []api.Table
	for i := range 4 {
		x := tableOf(mostName[:19]+mostName[i:i+1], 64, 8, 255)
		x.Schema = schemaOf(x.Schema.Name, 8)
		for j := range x.Schema.Cols {
			x.Schema.Cols[j].Name = mostName[:19] + mostName[j:j+1]
		}
		for _, pages := range [][]int{x.Tiles, x.Buckets} {
			for j := range pages {
				pages[j] = 511 - j%2
			}
		}
		l = append(l, x)
	}
	return l
}

// rightOnes are catalogs that may be.
func rightOnes() [][]api.Table {
	l := [][]api.Table{
		nil, {}, {idOf("a")}, {idOf("a"), idOf("b")}, {idOf("b"), idOf("a")}, {idOf("a"), idOf("aa"), idOf("ab"), idOf("ba")},
		{idOf(mostName), idOf(mostName[:19])}, greatest(), greatest()[:1],
		{tableOf("a", 0, 0, 0)}, {tableOf("a", 64, 0, 0)}, {tableOf("a", 1, 1, 1)}, {tableOf("a", 63, 3, 5), tableOf("b", 0, 0, 0), tableOf("c", 8, 8, 0)},
	}
	for level := range 9 {
		l = append(l, []api.Table{tableOf("a", 5, level, 0)}, []api.Table{tableOf("a", 5, level, 1<<level-1)}, []api.Table{tableOf("z", 5, level, 1<<level/2), idOf("a")})
	}
	// Nothing says that pages are unlike, nor that they rise.
	x := tableOf("a", 4, 1, 1)
	x.Tiles, x.Buckets = []int{511, 1, 1, 511}, []int{1, 511, 1}
	return append(l, []api.Table{x}, []api.Table{x, idOf("b")})
}

// wrongTables are tables that may not be, each for one reason alone.
func wrongTables() []api.Table {
	l := []api.Table{{}, {Buckets: []int{1}}}
	with := func(change func(x *api.Table)) {
		for _, x := range []api.Table{idOf("t"), tableOf("t", 8, 3, 5)} {
			x = copiedTables([]api.Table{x})[0]
			change(&x)
			l = append(l, x)
		}
	}
	for _, name := range []string{"", "T", "t1", "a b", mostName + "u", "\x00", "\u00e4"} {
		with(func(x *api.Table) { x.Schema.Name = name })
		with(func(x *api.Table) { x.Schema.Cols[0].Name = name })
	}
	with(func(x *api.Table) { x.Schema.Cols = nil })
	with(func(x *api.Table) { x.Schema.Cols = schemaOf("t", 9).Cols })
	with(func(x *api.Table) { x.Schema.Cols[0].Null = true })
	with(func(x *api.Table) { x.Schema.Cols[0].Kind = api.KindBool })
	with(func(x *api.Table) { x.Schema.Cols = append(x.Schema.Cols, x.Schema.Cols[0]) })
	for _, n := range []int{65, 66, 128, 511, 1000} {
		with(func(x *api.Table) { x.Tiles = pagesOf(n, 1) })
	}
	for _, no := range []int{0, -1, -2, -511, 512, 513, 1023, 1 << 16, 1 << 32, 1<<32 + 1, math.MinInt32, math.MaxInt32, math.MinInt, math.MinInt + 1, math.MaxInt} {
		with(func(x *api.Table) { x.Tiles[0] = no })
		with(func(x *api.Table) { x.Tiles[len(x.Tiles)-1] = no })
		with(func(x *api.Table) { x.Buckets[0] = no })
		with(func(x *api.Table) { x.Buckets[len(x.Buckets)-1] = no })
	}
	for _, n := range []int{0, 2, 3, 4, 8, 12, 14, 16, 256, 512, 1000} {
		with(func(x *api.Table) { x.Buckets = pagesOf(n, 1) })
	}
	for _, n := range []int{-1, -2, -8, 9, 10, 31, 32, 63, 64, 65, 1 << 32, 1<<32 + 3, math.MinInt, math.MaxInt} {
		with(func(x *api.Table) { x.Level = n })
		with(func(x *api.Table) { x.Next, x.Buckets = n, x.Buckets[:1] })
	}
	return l
}

// wrongOnes are catalogs that may not be, each for one reason alone.
func wrongOnes() [][]api.Table {
	five := append(greatest()[:4:4], idOf("e"))
	l := [][]api.Table{
		{idOf("a"), idOf("a")}, {idOf("a"), tableOf("a", 3, 2, 1)}, {idOf("a"), idOf("b"), idOf("a")}, {idOf("a"), idOf("b"), idOf("c"), idOf("b")},
		five, {idOf("a"), idOf("b"), idOf("c"), idOf("d"), idOf("e")}, append(five, idOf("f")), append(greatest(), greatest()...),
	}
	for _, x := range wrongTables() {
		l = append(l, []api.Table{x}, []api.Table{x, idOf("a")}, []api.Table{idOf("a"), tableOf("b", 3, 2, 1), idOf("c"), x})
	}
	return l
}

// anyOne is a catalog that may be.
func anyOne(r *rand.Rand) []api.Table {
	names := []string{"a", "b", "ab", "ba", "c", mostName, "zz"}
	r.Shuffle(len(names), func(i, j int) { names[i], names[j] = names[j], names[i] })
	var l []api.Table
	for i := range r.Intn(5) {
		level := r.Intn(1 + r.Intn(9))
		x := tableOf(names[i], r.Intn(1+r.Intn(65)), level, r.Intn(1<<level))
		for _, pages := range [][]int{x.Tiles, x.Buckets} {
			for j := range pages {
				pages[j] = 1 + r.Intn(511)
			}
		}
		l = append(l, x)
	}
	return l
}

// textOf is a catalog's bytes, by another way.
func textOf(l []api.Table) string {
	var b []byte
	num := func(list ...int) {
		for _, n := range list {
			b = binary.AppendVarint(b, int64(n))
		}
	}
	text := func(s string) {
		num(len(s))
		b = append(b, s...)
	}
	num(len(l))
	for _, x := range l {
		text(x.Schema.Name)
		num(len(x.Schema.Cols))
		for _, c := range x.Schema.Cols {
			text(c.Name)
			num(2*c.Kind + map[bool]int{true: 1}[c.Null])
		}
		num(len(x.Tiles))
		num(x.Tiles...)
		num(x.Level, x.Next, len(x.Buckets))
		num(x.Buckets...)
	}
	return string(b)
}

// sameTables compares catalogs; a list that holds nothing may be nil or empty.
func sameTables(a, b []api.Table) bool {
	return slices.EqualFunc(a, b, func(x, y api.Table) bool {
		return x.Schema.Name == y.Schema.Name && slices.Equal(x.Schema.Cols, y.Schema.Cols) && slices.Equal(x.Tiles, y.Tiles) && x.Level == y.Level && x.Next == y.Next && slices.Equal(x.Buckets, y.Buckets)
	})
}

// copiedTables shares nothing with the catalog.
func copiedTables(l []api.Table) []api.Table {
	l = slices.Clone(l)
	for i, x := range l {
		l[i].Schema.Cols, l[i].Tiles, l[i].Buckets = slices.Clone(x.Schema.Cols), slices.Clone(x.Tiles), slices.Clone(x.Buckets)
	}
	return l
}

// spoil overwrites all that the catalog's lists hold.
func spoil(l []api.Table) {
	for i, x := range l {
		for j := range x.Schema.Cols {
			x.Schema.Cols[j] = api.Col{}
		}
		for _, pages := range [][]int{x.Tiles, x.Buckets} {
			for j := range pages {
				pages[j] = 77
			}
		}
		l[i] = api.Table{}
	}
}

// P20.1

func TestKnown(t *testing.T) {
	x := api.Table{Schema: api.Schema{Name: "t", Cols: []api.Col{{Name: "id", Kind: api.KindInt}, {Name: "b", Kind: api.KindBytes, Null: true}}}, Tiles: []int{64, 3, 511}, Level: 1, Next: 1, Buckets: []int{4, 63, 65}}
	one := "\x02t\x04\x04id\x04\x02b\x0e" + "\x06\x80\x01\x06\xfe\x07" + "\x02\x02" + "\x06\x08\x7e\x82\x01"
	two := "\x02a\x02\x04id\x04" + "\x04\x06\xfe\x07" + "\x00\x00" + "\x02\x02"
	for text, l := range map[string][]api.Table{"\x00": nil, "\x02" + one: {x}, "\x04" + one + two: {x, idOf("a")}, "\x04" + two + one: {idOf("a"), x}} {
		if got := Print(l); got != text {
			t.Errorf("%+v: %x, want %x", l, got, text)
		}
		if got, is := Parse(text); !is || !sameTables(got, l) {
			t.Errorf("%x: %+v, %t", text, got, is)
		}
	}
}

func TestRight(t *testing.T) {
	for _, l := range rightOnes() {
		before := copiedTables(l)
		if !Right(l) || !sameTables(l, before) {
			t.Errorf("%+v may not be", l)
		}
	}
	for _, l := range wrongOnes() {
		before := copiedTables(l)
		if Right(l) || !sameTables(l, before) {
			t.Errorf("%+v may be", l)
		}
	}
}

// P20.1: each level, each next bucket, and numbers of buckets near what these make.
func TestRightIndexes(t *testing.T) {
	for level := -2; level <= 10; level++ {
		size := 1 << max(level, 0)
		for next := -2; next <= size+1; next++ {
			for less := -2; less <= 2; less++ {
				x := idOf("t")
				x.Level, x.Next, x.Buckets = level, next, pagesOf(max(size+next+less, 0), 1)
				want := level >= 0 && level <= 8 && next >= 0 && next < size && less == 0
				if got := Right([]api.Table{x}); got != want {
					t.Fatalf("level %d, next %d, %d buckets: %t", level, next, len(x.Buckets), got)
				}
				if l, is := Parse(textOf([]api.Table{x})); is != want || want && !sameTables(l, []api.Table{x}) || !want && len(l) > 0 {
					t.Fatalf("level %d, next %d, %d buckets: parsed %t", level, next, len(x.Buckets), is)
				}
			}
		}
	}
}

// P20.1: each number of tiles, and each page that a tile's or a bucket's text may begin at.
func TestRightPages(t *testing.T) {
	for n := range 70 {
		x := idOf("t")
		x.Tiles = pagesOf(n, 2)
		wantRight(t, x, n <= 64)
	}
	for no := -5; no < 1100; no++ {
		x, y := tableOf("t", 3, 1, 0), tableOf("t", 3, 1, 0)
		x.Tiles[1], y.Buckets[1] = no, no
		wantRight(t, x, no >= 1 && no <= 511)
		wantRight(t, y, no >= 1 && no <= 511)
	}
}

// wantRight wants a catalog of one table to be one that may be, and had again, or neither.
func wantRight(t *testing.T, x api.Table, want bool) {
	t.Helper()
	l := []api.Table{x}
	got, is := Parse(textOf(l))
	if Right(l) != want || is != want || want && !sameTables(got, l) || !want && len(got) > 0 {
		t.Fatalf("%+v: may be %t, parsed %t, want %t", x, Right(l), is, want)
	}
}

func TestPrint(t *testing.T) {
	r := rand.New(rand.NewSource(201))
	l := append(rightOnes(), wrongOnes()...)
	for range 300 {
		l = append(l, anyOne(r))
	}
	for _, l := range l {
		before := copiedTables(l)
		if got := Print(l); got != textOf(l) || !sameTables(l, before) {
			t.Fatalf("%+v: %x, want %x", l, got, textOf(l))
		}
	}
}

func TestParse(t *testing.T) {
	r := rand.New(rand.NewSource(202))
	l := rightOnes()
	for range 300 {
		l = append(l, anyOne(r))
	}
	for _, l := range l {
		text := textOf(l)
		got, is := Parse(text)
		if !is || !sameTables(got, l) {
			t.Fatalf("%x: %+v, %t, want %+v", text, got, is, l)
		}
		spoil(got)
		if again, is := Parse(text); !is || !sameTables(again, l) {
			t.Fatalf("%x, beside one that was changed: %+v, %t", text, again, is)
		}
	}
	for _, l := range wrongOnes() {
		wantNone(t, textOf(l))
	}
}

// wantNone wants no catalog of s.
func wantNone(t *testing.T, s string) {
	t.Helper()
	if l, is := Parse(s); is || len(l) > 0 {
		t.Fatalf("%x: %+v, %t", s, l, is)
	}
}

// P20.1: bytes that are no catalog's, by hand.
func TestParseNone(t *testing.T) {
	schema := "\x02t\x02\x04id\x04"
	good := "\x02" + schema + "\x02\x06" + "\x02\x02" + "\x06\x08\x0a\x0c"
	if l, is := Parse(good); !is || len(l) != 1 {
		t.Fatal("a good one is none")
	}
	for _, s := range []string{
		"", "x", "\x01", "\x02", "\x04", "\x80", "\x80\x00", "\xff", "\x00\x00", "\x0a", "\x82\x00" + good[1:], good + "\x00", good + good, "\x00" + good,
		"\x01" + good[1:], "\x04" + good[1:], "\x00" + good[1:],
		"\x02" + schema + "\x82\x00\x06" + "\x02\x02" + "\x06\x08\x0a\x0c",
		"\x02" + schema + "\x02\x86\x00" + "\x02\x02" + "\x06\x08\x0a\x0c",
		"\x02" + schema + "\x02\x05" + "\x02\x02" + "\x06\x08\x0a\x0c",
		"\x02" + schema + "\x02\x06" + "\x82\x00\x02" + "\x06\x08\x0a\x0c",
		"\x02" + schema + "\x02\x06" + "\x02\x82\x00" + "\x06\x08\x0a\x0c",
		"\x02" + schema + "\x02\x06" + "\x02\x02" + "\x86\x00\x08\x0a\x0c",
		"\x02" + schema + "\x02\x06" + "\x02\x00" + "\x06\x08\x0a\x0c",
		"\x02" + schema + "\x02\x06" + "\x02\x04" + "\x06\x08\x0a\x0c",
		"\x02" + schema + "\x02\x06" + "\x04\x02" + "\x06\x08\x0a\x0c",
		"\x02" + schema + "\x02\x06" + "\x02\x02" + "\x04\x08\x0a\x0c",
		"\x02" + schema + "\x02\x06" + "\x02\x02" + "\x08\x08\x0a\x0c",
		"\x02" + schema + "\x02\x06" + "\x02\x02" + "\x04\x08\x0a",
		"\x02" + schema + "\x02\x06" + "\x02\x02" + "\x08\x08\x0a\x0c\x0e",
		"\x02" + schema + "\x02\x06" + "\x02\x02" + "\x00",
		"\x02" + schema + "\xfe\xff\xff\xff\xff\xff\xff\xff\xff\x01\x06" + "\x02\x02" + "\x06\x08\x0a\x0c",
		"\xfe\xff\xff\xff\xff\xff\xff\xff\xff\x01" + good[1:],
		"\x04" + good[1:] + good[1:],
		strings.Repeat("\x02", 1000), strings.Repeat("\x00", 1000), strings.Repeat("\xff", 1000),
	} {
		wantNone(t, s)
	}
}

// P20.1: a catalog is had of just its own Print: of each beginning, with each byte more, with each byte another one.
func TestParseOneForm(t *testing.T) {
	for _, l := range [][]api.Table{nil, {idOf("a")}, {idOf("a"), tableOf("b", 3, 2, 1)}, {tableOf("t", 8, 3, 5)}} {
		text := textOf(l)
		for size := range text {
			wantNone(t, text[:size])
		}
		for b := range 256 {
			wantNone(t, text+string([]byte{byte(b)}))
			for at := range text {
				other := []byte(text)
				other[at] = byte(b)
				wantOneForm(t, string(other))
			}
		}
	}
	r := rand.New(rand.NewSource(203))
	for range 20000 {
		b := []byte(textOf(anyOne(r)))
		for range 1 + r.Intn(3) {
			b[r.Intn(len(b))] = "\x00\x02\x04\x06\x0c\x80ab\xff"[r.Intn(9)]
		}
		wantOneForm(t, string(b))
	}
}

// wantOneForm wants s to be the Print of the catalog that is had of it, if there is one.
func wantOneForm(t *testing.T, s string) {
	t.Helper()
	l, is := Parse(s)
	if is && (!Right(l) || Print(l) != s) || !is && len(l) > 0 {
		t.Fatalf("%x: %+v, %t", s, l, is)
	}
}

func TestFind(t *testing.T) {
	l := []api.Table{idOf("a"), idOf("bb"), {}, idOf("b"), idOf("a"), idOf(mostName + "u"), {}, idOf("\x00")}
	for name, want := range map[string]int{"a": 0, "bb": 1, "": 2, "b": 3, mostName + "u": 5, "\x00": 7, "c": -1, "A": -1, "aa": -1, mostName: -1, "id": -1} {
		if got := Find(l, name); got != want {
			t.Errorf("%q: %d, want %d", name, got, want)
		}
		if Find(nil, name) != -1 || Find([]api.Table{}, name) != -1 {
			t.Errorf("%q is found among no tables", name)
		}
	}
}

// P20.2

// padded is the bytes of a page that begins with data.
func padded(data string) string { return data + strings.Repeat("\x00", 200-len(data)) }

// rootOf is page 0's bytes, with the catalog beginning at a page, and these pages taken, by another way.
func rootOf(begin int, taken ...int) string {
	b := make([]byte, 200)
	for _, no := range taken {
		b[no/8] |= 1 << (no % 8)
	}
	binary.BigEndian.PutUint16(b[64:], uint16(begin))
	return string(b)
}

// laidOf are the pages of a text in these pages, as it is laid there, by another way.
func laidOf(text string, pages []int) []api.Page {
	var l []api.Page
	for i, no := range pages {
		next := 0
		if i < len(pages)-1 {
			next = pages[i+1]
		}
		part := text[min(len(text), 196*i):min(len(text), 196*i+196)]
		b := binary.BigEndian.AppendUint16(nil, uint16(next))
		b = binary.BigEndian.AppendUint16(b, uint16(len(part)))
		l = append(l, api.Page{No: no, Data: padded(string(b) + part)})
	}
	return l
}

// upTo are the pages from one to another.
func upTo(from, to int) []int {
	var l []int
	for no := from; no <= to; no++ {
		l = append(l, no)
	}
	return l
}

// same compares stores; a list that holds nothing may be nil or empty.
func same(a, b api.Store) bool {
	return sameBut(a, b) && sameSlab(a.Slab, b.Slab) && slices.Equal(a.Clock.Held, b.Clock.Held) && a.Clock.Hand == b.Clock.Hand
}

// sameBut compares all of stores that is not free: neither their devices, nor which pages are at hand.
func sameBut(a, b api.Store) bool {
	return a.Head == b.Head && a.Tail == b.Tail && slices.Equal(a.Fresh, b.Fresh) && slices.Equal(a.Dirty, b.Dirty)
}

func sameSlab(a, b api.Slab) bool {
	return slices.Equal(a.Sure, b.Sure) && slices.Equal(a.Late, b.Late) && a.Dead == b.Dead && a.Left == b.Left && a.Deeds == b.Deeds
}

// copied shares nothing with the store.
func copied(s api.Store) api.Store {
	s.Slab.Sure, s.Slab.Late = slices.Clone(s.Slab.Sure), slices.Clone(s.Slab.Late)
	s.Fresh, s.Dirty, s.Clock.Held = slices.Clone(s.Fresh), slices.Clone(s.Dirty), slices.Clone(s.Clock.Held)
	return s
}

// format is an empty store.
func format(t *testing.T, pages, log int) api.Store {
	t.Helper()
	s, err := store.Format(pages, log)
	if err != api.OK {
		t.Fatalf("%d pages, a log of %d: error %d", pages, log, err)
	}
	return s
}

// saving is s with a catalog.
func saving(t *testing.T, s api.Store, l []api.Table) api.Store {
	t.Helper()
	beforeStore, beforeList := copied(s), copiedTables(l)
	now, err := Save(s, l)
	if err != api.OK {
		t.Fatalf("%+v: error %d", l, err)
	}
	if !same(s, beforeStore) || !sameTables(l, beforeList) {
		t.Fatal("save changed what it was given")
	}
	if clock.Pins(now.Clock) != 0 {
		t.Fatal("save holds a page")
	}
	return now
}

// wantLoad wants that catalog to be loaded, and nothing to be changed.
func wantLoad(t *testing.T, what string, s api.Store, want []api.Table) {
	t.Helper()
	before := copied(s)
	now, l, err := Load(s)
	if err != api.OK || !sameTables(l, want) {
		t.Fatalf("%s: %+v, error %d, want %+v", what, l, err, want)
	}
	if !same(s, before) || !sameBut(now, before) || clock.Pins(now.Clock) != 0 || !slices.Equal(now.Slab.Sure, before.Slab.Sure) || !slices.Equal(now.Slab.Late, before.Slab.Late) {
		t.Fatalf("%s: loading changed the store", what)
	}
}

// put is s with another text, and where it begins.
func put(t *testing.T, s api.Store, no, size int) (api.Store, int) {
	t.Helper()
	s, begin, err := blob.Put(s, no, strings.Repeat("x", size))
	if err != api.OK {
		t.Fatalf("%d bytes at page %d: error %d", size, no, err)
	}
	return s, begin
}

// laid is s with pages written raw.
func laid(t *testing.T, s api.Store, pages ...api.Page) api.Store {
	t.Helper()
	for _, p := range pages {
		now, err := store.Write(s, p.No, p.Data)
		if err != api.OK {
			t.Fatalf("page %d: error %d", p.No, err)
		}
		s = now
	}
	return s
}

// committed is s, committed.
func committed(t *testing.T, s api.Store) api.Store {
	t.Helper()
	s, err := store.Commit(s)
	if err != api.OK {
		t.Fatalf("commit: error %d", err)
	}
	return s
}

// anew is s committed, and opened anew, so that no page is at hand.
func anew(t *testing.T, s api.Store) api.Store {
	t.Helper()
	s, _, err := store.Open(committed(t, s).Slab)
	if err != api.OK {
		t.Fatalf("open: error %d", err)
	}
	return s
}

// wantRoot wants page 0's bytes.
func wantRoot(t *testing.T, what string, s api.Store, want string) {
	t.Helper()
	_, root, err := store.Read(s, 0)
	if err != api.OK || root != want {
		t.Fatalf("%s: page 0 is %x, error %d, want %x", what, root, err, want)
	}
}

// wantFailed wants the store as it was, pages at hand too, but for what its device did and whether it is Dead.
func wantFailed(t *testing.T, what string, was, now api.Store, err, want api.Errno) {
	t.Helper()
	if err != want {
		t.Fatalf("%s: error %d, want %d", what, err, want)
	}
	asked := now.Slab.Deeds - was.Slab.Deeds
	if now.Slab.Dead != (was.Slab.Dead || want == api.ErrDown) || asked < 0 || was.Slab.Left >= 0 && now.Slab.Left != was.Slab.Left-asked {
		t.Fatalf("%s: the device isn't as it is: %d deeds, dead %t, left %d of %d", what, asked, now.Slab.Dead, now.Slab.Left, was.Slab.Left)
	}
	now.Slab.Dead, now.Slab.Left, now.Slab.Deeds = was.Slab.Dead, was.Slab.Left, was.Slab.Deeds
	if !same(now, was) {
		t.Fatalf("%s: the store isn't as it was", what)
	}
}

// wantLoadErr wants Load to answer an error, and no tables.
func wantLoadErr(t *testing.T, what string, s api.Store, want api.Errno) {
	t.Helper()
	before := copied(s)
	now, l, err := Load(s)
	wantFailed(t, what+": load", before, now, err, want)
	if len(l) > 0 || !same(s, before) {
		t.Fatalf("%s: %+v beside an error", what, l)
	}
}

// wantSaveErr wants Save to answer an error.
func wantSaveErr(t *testing.T, what string, s api.Store, l []api.Table, want api.Errno) {
	t.Helper()
	before := copied(s)
	now, err := Save(s, l)
	wantFailed(t, what+": save", before, now, err, want)
	if !same(s, before) {
		t.Fatalf("%s: save changed what it was given", what)
	}
}

// P20.2: no tables, where none were ever saved, whatever else there is.
func TestNeverSaved(t *testing.T) {
	s := format(t, 8, 8)
	wantLoad(t, "empty", s, nil)
	s, _ = put(t, s, 0, 500)
	wantLoad(t, "a text", s, nil)
	wantLoad(t, "a text, anew", anew(t, s), nil)
	wantLoad(t, "noughts", laid(t, s, api.Page{Data: padded("")}), nil)
	// A text that is no catalog at page 1 is not looked at while Root is 0.
	wantLoad(t, "other bytes", laid(t, s, api.Page{Data: strings.Repeat("\xff", 64) + "\x00\x00" + strings.Repeat("\xff", 134)}), nil)
	s = saving(t, s, nil)
	wantLoad(t, "none, saved", s, nil)
	wantRoot(t, "none, saved", s, rootOf(4, 0, 1, 2, 3, 4))
}

// P20.2: what is saved into an empty store: each page's bytes, one by one.
func TestSaveLays(t *testing.T) {
	r := rand.New(rand.NewSource(204))
	all := rightOnes()
	for range 50 {
		all = append(all, anyOne(r))
	}
	for _, l := range all {
		s := format(t, 40, 50)
		text := textOf(l)
		pages := upTo(1, (len(text)+195)/196)
		now := saving(t, s, l)
		s.Dirty = append([]api.Page{{Data: rootOf(1, append(pages, 0)...)}}, laidOf(text, pages)...)
		if !sameBut(now, s) {
			t.Fatalf("%+v: other pages are written", l)
		}
		wantLoad(t, "saved", now, l)
		wantLoad(t, "saved, anew", anew(t, now), l)
	}
}

// P20.2: in the place of another catalog, between texts that stay: it begins where that one began, and its pages are the old ones, as far as it needs them.
func TestSaveReplaces(t *testing.T) {
	short, longer, long := []api.Table{idOf("a")}, []api.Table{tableOf("a", 64, 7, 60)}, greatest()
	for _, lists := range [][][]api.Table{{short, longer, long}, {long, longer, short, nil}, {longer, short, long, longer, longer}, {nil, long, nil}} {
		s, low := put(t, format(t, 60, 100), 0, 300)
		s = saving(t, s, lists[0])
		s, high := put(t, s, 0, 300)
		first := (len(textOf(lists[0])) + 195) / 196
		for _, l := range lists[1:] {
			s = saving(t, s, l)
			wantLoad(t, "replaced", s, l)
			need := (len(textOf(l)) + 195) / 196
			taken := append(upTo(0, 2+min(first, need)), 3+first, 4+first)
			for no := 3 + min(first, need); len(taken) < need+5; no++ {
				if !slices.Contains(taken, no) {
					taken = append(taken, no)
				}
			}
			wantRoot(t, "replaced", s, rootOf(3, taken...))
			wantText(t, s, low, 300)
			wantText(t, s, high, 300)
		}
	}
}

// wantText wants a text of so many bytes at a page.
func wantText(t *testing.T, s api.Store, no, size int) {
	t.Helper()
	if _, text, err := blob.Read(s, no); err != api.OK || text != strings.Repeat("x", size) {
		t.Fatalf("page %d: %d bytes, error %d, want %d", no, len(text), err, size)
	}
}

// P20.2: the rest of page 0's bytes stays.
func TestSaveKeepsRoot(t *testing.T) {
	tail := strings.Repeat("z", 134)
	s := laid(t, format(t, 8, 8), api.Page{Data: rootOf(0, 1, 3)[:66] + tail})
	s = saving(t, s, []api.Table{idOf("a")})
	wantRoot(t, "saved", s, rootOf(2, 0, 1, 2, 3)[:66]+tail)
	s = saving(t, s, []api.Table{tableOf("a", 64, 7, 60)})
	wantRoot(t, "saved anew", s, rootOf(2, 0, 1, 2, 3, 4, 5)[:66]+tail)
	wantLoad(t, "saved anew", s, []api.Table{tableOf("a", 64, 7, 60)})
}

// P20.2: what is no catalog is refused ahead of all else; so is one that a device without power is asked to save.
func TestSaveRefuses(t *testing.T) {
	s := saving(t, format(t, 8, 8), []api.Table{idOf("a")})
	dead, spoiled := s, laid(t, s, api.Page{Data: rootOf(300)})
	dead.Slab.Dead = true
	for _, l := range wrongOnes() {
		for _, s := range []api.Store{format(t, 8, 8), s, dead, spoiled, {}} {
			before := copied(s)
			now, err := Save(s, l)
			if err != api.ErrArg || !same(now, before) || !same(s, before) {
				t.Fatalf("%+v: error %d", l, err)
			}
		}
	}
	wantLoad(t, "refused", s, []api.Table{idOf("a")})
	wantSaveErr(t, "dead", dead, []api.Table{idOf("a")}, api.ErrDown)
	wantSaveErr(t, "dead", dead, nil, api.ErrDown)
	wantLoadErr(t, "dead", dead, api.ErrDown)
}

// P20.2: no room: by one page, for the first catalog, and for a longer one in the place of another.
func TestSaveFull(t *testing.T) {
	l := []api.Table{tableOf("a", 64, 7, 60)}
	need := (len(textOf(l)) + 195) / 196
	for free := range need + 2 {
		s, other := put(t, format(t, 20, 100), 0, 196*(19-free))
		saved := []api.Table(nil)
		if free > 0 {
			saved = []api.Table{idOf("a")}
			wantLoad(t, "short", saving(t, s, saved), saved)
		}
		for _, s := range []api.Store{s, anew(t, s)} {
			if free < need {
				wantSaveErr(t, "full", s, l, api.ErrFull)
			} else {
				wantLoad(t, "room", saving(t, s, l), l)
			}
			if free == 0 {
				wantSaveErr(t, "full", s, nil, api.ErrFull)
				continue
			}
			s = saving(t, s, saved)
			if free < need {
				wantSaveErr(t, "full", s, l, api.ErrFull)
				wantLoad(t, "full", s, saved)
				wantText(t, s, other, 196*(19-free))
			} else {
				wantLoad(t, "room", saving(t, s, l), l)
			}
		}
	}
}

// P20.2: what stands at Root is no catalog's text: another text, none, or none that there may be.
func TestSpoiledText(t *testing.T) {
	for _, l := range wrongOnes() {
		if text := textOf(l); len(text) <= 196*7 {
			wantNoCatalog(t, text)
		}
	}
	for _, text := range []string{"", "x", "\x00\x00", "\x02", "\x0a", strings.Repeat("\x02", 1000), textOf([]api.Table{idOf("a")}) + "\x00", textOf(greatest())[:1300]} {
		wantNoCatalog(t, text)
	}
	begin := func(s string) api.Page { return api.Page{No: 3, Data: padded(s)} }
	for s, want := range map[string]api.Errno{"\x00\x00\x00\xc5": api.ErrForm, "\x00\x03\x00\x01\x00": api.ErrForm, "\x00\x08\x00\x01\x00": api.ErrArg, "\xff\xff\x00\x01\x00": api.ErrArg} {
		x := laid(t, format(t, 8, 8), api.Page{Data: rootOf(3, 0, 3)}, begin(s))
		wantLoadErr(t, "no text", x, want)
		wantSaveErr(t, "no text", x, []api.Table{idOf("a")}, want)
		wantSaveErr(t, "no text, no room", x, greatest(), want)
	}
	wantLoad(t, "the shortest one", laid(t, format(t, 8, 8), api.Page{Data: rootOf(3, 0, 3)}, begin("\x00\x00\x00\x01\x00")), nil)
}

// wantNoCatalog wants a text at Root to be no catalog, and one that is saved to stand in its place.
func wantNoCatalog(t *testing.T, text string) {
	t.Helper()
	s := laid(t, format(t, 8, 20), append(laidOf(text, upTo(1, max(1, (len(text)+195)/196))), api.Page{Data: rootOf(1, upTo(0, 7)...)})...)
	wantLoadErr(t, "no catalog", s, api.ErrForm)
	wantLoadErr(t, "no catalog, anew", anew(t, s), api.ErrForm)
	s = saving(t, s, []api.Table{idOf("a")})
	wantLoad(t, "in its place", s, []api.Table{idOf("a")})
}

// P20.2: Root tells of a page that there isn't.
func TestSpoiledRoot(t *testing.T) {
	for _, pages := range []int{8, 9, 511, 512} {
		for _, no := range []int{pages, pages + 1, 512, 513, 1 << 15, 1<<16 - 1} {
			s := laid(t, format(t, pages, 8), api.Page{Data: rootOf(no, 0)})
			for _, s := range []api.Store{s, anew(t, s)} {
				wantLoadErr(t, "no such page", s, api.ErrArg)
				wantSaveErr(t, "no such page", s, []api.Table{idOf("a")}, api.ErrArg)
			}
		}
	}
}

// P20.2: layer 18's error of a page whose frame of the log is none: page 0, and the text's pages.
func TestSpoiledFrame(t *testing.T) {
	l := []api.Table{tableOf("a", 64, 7, 60)}
	s := committed(t, saving(t, format(t, 8, 20), l))
	s.Clock = api.Clock{}
	for i := range len(s.Fresh) {
		x := s
		x.Slab.Sure = slices.Clone(s.Slab.Sure)
		x.Slab.Sure[head.Log(s.Head, i)] = leaf.Print(api.Page{No: i, Data: leaf.Blank()})
		wantLoadErr(t, "spoiled", x, api.ErrForm)
		wantSaveErr(t, "spoiled", x, l, api.ErrForm)
		wantSaveErr(t, "spoiled", x, nil, api.ErrForm)
		wantSaveErr(t, "spoiled, no room", x, greatest(), api.ErrForm)
	}
}

// P20.2, P4: the power goes behind each deed of each call: then the store is as it was, and its device Dead; else all is done.
func TestPowerGoes(t *testing.T) {
	was, longer := []api.Table{tableOf("a", 64, 7, 60)}, greatest()
	s := anew(t, saving(t, format(t, 60, 100), was))
	empty := anew(t, format(t, 60, 100))
	load := func(s api.Store) (api.Store, api.Errno) { s, _, err := Load(s); return s, err }
	save := func(l []api.Table) func(api.Store) (api.Store, api.Errno) {
		return func(s api.Store) (api.Store, api.Errno) { return Save(s, l) }
	}
	for _, x := range []struct {
		what  string
		s     api.Store
		was   []api.Table
		call  func(api.Store) (api.Store, api.Errno)
		least int
	}{
		{"load", s, was, load, 4}, {"load of none", empty, nil, load, 1}, {"save first", empty, nil, save(was), 1},
		{"save", s, was, save(was), 4}, {"save more", s, was, save(longer), 4}, {"save less", s, was, save(nil), 4},
	} {
		whole, err := x.call(x.s)
		deeds := whole.Slab.Deeds - x.s.Slab.Deeds
		if err != api.OK || deeds < x.least || deeds > 20*(60+100)*64+200 {
			t.Fatalf("%s: error %d, %d deeds", x.what, err, deeds)
		}
		for left := range deeds + 2 {
			armed := x.s
			armed.Slab = slab.Arm(x.s.Slab, left)
			now, err := x.call(armed)
			if left >= deeds {
				if err != api.OK || !sameBut(now, whole) || now.Slab.Dead {
					t.Fatalf("%s, %d deeds left of %d: error %d", x.what, left, deeds, err)
				}
				continue
			}
			wantFailed(t, x.what, armed, now, err, api.ErrDown)
			now, _, err = store.Open(slab.Start(now.Slab, api.Fate{Torn: -1}))
			if err != api.OK {
				t.Fatalf("%s: open: error %d", x.what, err)
			}
			wantLoad(t, x.what, now, x.was)
		}
	}
}

// P20.3: catalogs saved one behind the other, beside other texts, committed, taken back and opened anew in between: what was saved last is loaded.
func TestSavedLast(t *testing.T) {
	for seed := range 20 {
		r := rand.New(rand.NewSource(int64(seed)))
		s := format(t, 80, 100)
		var now, sure []api.Table
		texts := 0
		for range 60 {
			switch r.Intn(6) {
			case 0, 1:
				l := anyOne(r)
				s, now = saving(t, s, l), l
			case 2:
				wantSaveErr(t, "wrong", s, []api.Table{idOf("a"), idOf("a")}, api.ErrArg)
			case 3:
				if texts < 8 {
					s, _ = put(t, s, 0, 1+r.Intn(500))
					texts++
				}
			case 4:
				s, sure = anew(t, s), now
			default:
				s, now = store.Abort(s), sure
			}
			wantLoad(t, "saved last", s, now)
		}
	}
}

// P20.3: unlike catalogs have unlike bytes.
func TestUnlike(t *testing.T) {
	r := rand.New(rand.NewSource(205))
	seen := map[string][]api.Table{}
	all := rightOnes()
	for range 1000 {
		all = append(all, anyOne(r))
	}
	for _, l := range all {
		was, there := seen[Print(l)]
		if there && !sameTables(was, l) {
			t.Fatalf("%+v and %+v have the same bytes", was, l)
		}
		seen[Print(l)] = l
	}
}

// Rule 3: an answer is new memory, and what is handed in isn't kept, its spare room neither.
func TestOwnMemory(t *testing.T) {
	l := []api.Table{idOf("a"), tableOf("b", 8, 3, 5)}
	want := copiedTables(l)
	s := saving(t, format(t, 20, 20), l)
	spoil(l)
	_, got, _ := Load(s)
	spoil(got)
	wantLoad(t, "beside lists that were changed", s, want)
	s.Dirty = slices.Grow(s.Dirty, 10)
	spare := s.Dirty[:cap(s.Dirty)]
	before := slices.Clone(spare)
	saving(t, s, greatest()[:1])
	Load(s)
	if !slices.Equal(spare, before) {
		t.Error("spare room was written into")
	}
	list := append(make([]api.Table, 0, 9), want...)
	list[0].Tiles = append(make([]int, 0, 9), list[0].Tiles...)
	Right(list)
	Print(list)
	Find(list, "b")
	saving(t, s, list)
	if more := list[:3][2]; more.Schema.Name != "" || !slices.Equal(list[0].Tiles[:9][2:], make([]int, 7)) {
		t.Error("spare room of a list was written into")
	}
}

// Rule 4 of the language: nothing panics, and all ends, of stores that no call has made, too.
func TestRawStores(t *testing.T) {
	good := format(t, 8, 8)
	great, none, short := good, good, good
	great.Head.Pages, none.Head.Pages = math.MaxInt, math.MinInt
	short.Dirty = []api.Page{{No: 0, Data: "\x01"}, {No: 1, Data: "\x00"}}
	for _, s := range []api.Store{{}, {Head: api.Head{Pages: 8}}, great, none, short, {Slab: api.Slab{Left: -1}, Head: good.Head}} {
		Load(s)
		for _, l := range rightOnes() {
			Save(s, l)
		}
	}
	wantLoadErr(t, "no store", api.Store{}, api.ErrArg)
	wantSaveErr(t, "no store", api.Store{}, nil, api.ErrArg)
	wantLoad(t, "page 0 of one byte", short, nil)
}

// Rules 4 and 6: many may call at once, and all are answered the same.
func TestAtOnce(t *testing.T) {
	l, other := []api.Table{tableOf("a", 64, 7, 60), idOf("b")}, greatest()
	s := anew(t, saving(t, format(t, 60, 100), l))
	want := saving(t, s, other)
	before := copied(s)
	var wait sync.WaitGroup
	for range 8 {
		wait.Go(func() {
			for range 20 {
				_, was, _ := Load(s)
				now, err := Save(s, other)
				_, got, _ := Load(now)
				if err != api.OK || !same(now, want) || !sameTables(was, l) || !sameTables(got, other) || Find(l, "b") != 1 || !Right(l) || Print(l) != textOf(l) {
					t.Error("another answer")
				}
			}
		})
	}
	wait.Wait()
	if !same(s, before) {
		t.Error("handed in, and changed")
	}
}
