package blob

import (
	"encoding/binary"
	"maps"
	"math"
	"math/rand"
	"slices"
	"strings"
	"sync"
	"testing"

	"mosaicist/api"
	"mosaicist/clock"
	"mosaicist/head"
	"mosaicist/leaf"
	"mosaicist/slab"
	"mosaicist/store"
)

// text is so many bytes, of every kind; another seed has others.
func text(size, seed int) string {
	b := make([]byte, size)
	for i := range b {
		b[i] = byte(i*7 + i/196*31 + seed*89 + 1)
	}
	return string(b)
}

// padded is the bytes of a page that begins with data.
func padded(data string) string { return data + strings.Repeat("\x00", 200-len(data)) }

// pageOf is the bytes of a page of a text, by another way.
func pageOf(next, size int, part string) string {
	b := binary.BigEndian.AppendUint16(nil, uint16(next))
	b = binary.BigEndian.AppendUint16(b, uint16(size))
	return padded(string(b) + part)
}

// partsOf are the bytes of a text's pages, by another way.
func partsOf(pages []int, text string) map[int]string {
	parts := map[int]string{}
	for i, no := range pages {
		next := 0
		if i < len(pages)-1 {
			next = pages[i+1]
		}
		part := text[min(len(text), 196*i):min(len(text), 196*i+196)]
		parts[no] = pageOf(next, len(part), part)
	}
	return parts
}

// rootOf is page 0's bytes with these pages taken, by another way.
func rootOf(begin int, taken ...int) string {
	b := make([]byte, 200)
	for _, no := range taken {
		b[no/8] |= 1 << (no % 8)
	}
	binary.BigEndian.PutUint16(b[64:], uint16(begin))
	return string(b)
}

// upTo are the pages from one to another.
func upTo(from, to int) []int {
	var l []int
	for no := from; no <= to; no++ {
		l = append(l, no)
	}
	return l
}

// same compares stores; a list that holds nothing may be nil or empty.
func same(a, b api.Store) bool {
	return sameBut(a, b) && sameSlab(a.Slab, b.Slab) && slices.Equal(a.Clock.Held, b.Clock.Held) && a.Clock.Hand == b.Clock.Hand
}

// sameBut compares all of stores that is not free: neither their devices, nor which pages are at hand.
func sameBut(a, b api.Store) bool {
	return a.Head == b.Head && a.Tail == b.Tail && slices.Equal(a.Fresh, b.Fresh) && slices.Equal(a.Dirty, b.Dirty)
}

func sameSlab(a, b api.Slab) bool {
	return slices.Equal(a.Sure, b.Sure) && slices.Equal(a.Late, b.Late) && a.Dead == b.Dead && a.Left == b.Left && a.Deeds == b.Deeds
}

// copied shares nothing with the store.
func copied(s api.Store) api.Store {
	s.Slab.Sure, s.Slab.Late = slices.Clone(s.Slab.Sure), slices.Clone(s.Slab.Late)
	s.Fresh, s.Dirty, s.Clock.Held = slices.Clone(s.Fresh), slices.Clone(s.Dirty), slices.Clone(s.Clock.Held)
	return s
}

// format is an empty store.
func format(t *testing.T, pages, log int) api.Store {
	t.Helper()
	s, err := store.Format(pages, log)
	if err != api.OK {
		t.Fatalf("%d pages, a log of %d: error %d", pages, log, err)
	}
	return s
}

// put is s with a text, and where it begins.
func put(t *testing.T, s api.Store, no int, text string) (api.Store, int) {
	t.Helper()
	s, begin, err := Put(s, no, text)
	if err != api.OK {
		t.Fatalf("%d bytes at page %d: error %d", len(text), no, err)
	}
	return s, begin
}

// dropped is s without a text.
func dropped(t *testing.T, s api.Store, no int) api.Store {
	t.Helper()
	s, err := Drop(s, no)
	if err != api.OK {
		t.Fatalf("drop of page %d: error %d", no, err)
	}
	return s
}

// laid is s with pages written raw.
func laid(t *testing.T, s api.Store, pages map[int]string) api.Store {
	t.Helper()
	for _, no := range slices.Sorted(maps.Keys(pages)) {
		next, err := store.Write(s, no, pages[no])
		if err != api.OK {
			t.Fatalf("page %d: error %d", no, err)
		}
		s = next
	}
	return s
}

// anew is s committed, and opened anew, so that no page is at hand.
func anew(t *testing.T, s api.Store) api.Store {
	t.Helper()
	s, err := store.Commit(s)
	if err != api.OK {
		t.Fatalf("commit: error %d", err)
	}
	s, _, err = store.Open(s.Slab)
	if err != api.OK {
		t.Fatalf("open: error %d", err)
	}
	return s
}

// down is s on a device without power, and without pages at hand.
func down(s api.Store) api.Store {
	s.Slab.Dead = true
	s.Clock = api.Clock{}
	return s
}

// page is a page's bytes.
func page(t *testing.T, s api.Store, no int) string {
	t.Helper()
	_, data, err := store.Read(s, no)
	if err != api.OK {
		t.Fatalf("page %d: error %d", no, err)
	}
	return data
}

// takenOf are the pages that page 0 marks, by another way.
func takenOf(t *testing.T, s api.Store) []int {
	t.Helper()
	root := page(t, s, 0)
	var l []int
	for no := range 512 {
		if root[no/8]>>(no%8)&1 == 1 {
			l = append(l, no)
		}
	}
	return l
}

// wantPages wants just these pages to be others than noughts.
func wantPages(t *testing.T, what string, s api.Store, want map[int]string) {
	t.Helper()
	for no := range s.Head.Pages {
		data, is := want[no]
		if !is {
			data = padded("")
		}
		if got := page(t, s, no); got != data {
			t.Fatalf("%s: page %d is %q, want %q", what, no, got, data)
		}
	}
}

// wantText wants a text that begins at a page, in these pages.
func wantText(t *testing.T, what string, s api.Store, no int, text string, pages []int) {
	t.Helper()
	before := copied(s)
	r, got, err := Read(s, no)
	if err != api.OK || got != text {
		t.Fatalf("%s: read %d bytes (error %d), want %d", what, len(got), err, len(text))
	}
	p, l, err := Pages(s, no)
	if err != api.OK || !slices.Equal(l, pages) {
		t.Fatalf("%s: pages %v (error %d), want %v", what, l, err, pages)
	}
	if !sameBut(r, before) || !sameBut(p, before) || !same(s, before) {
		t.Fatalf("%s: reading changed the store", what)
	}
	if clock.Pins(r.Clock)+clock.Pins(p.Clock) != 0 {
		t.Fatalf("%s: a page is held", what)
	}
}

// wantErr wants Read, Pages, Drop and Put at a page to answer an error, zero values, and the store as it was, with the device as it is.
func wantErr(t *testing.T, what string, s api.Store, no int, want api.Errno) {
	t.Helper()
	r, text, err := Read(s, no)
	wantFailed(t, what+": read", s, r, err, want)
	p, pages, err := Pages(s, no)
	wantFailed(t, what+": pages", s, p, err, want)
	d, err := Drop(s, no)
	wantFailed(t, what+": drop", s, d, err, want)
	if text != "" || len(pages) > 0 {
		t.Fatalf("%s: %q, %v beside an error", what, text, pages)
	}
	if no == 0 {
		return
	}
	// Beyond all room as well: what is wrong with the old text is told ahead of that.
	for _, size := range []int{0, 1, 196, 197, 200 * 513} {
		wantPutErr(t, what, s, no, size, want)
	}
}

// wantPutErr wants Put alone to answer an error.
func wantPutErr(t *testing.T, what string, s api.Store, no, size int, want api.Errno) {
	t.Helper()
	p, begin, err := Put(s, no, text(size, 1))
	wantFailed(t, what+": put", s, p, err, want)
	if begin != 0 {
		t.Fatalf("%s: put: page %d beside an error", what, begin)
	}
}

// wantFailed wants the store as it was, pages at hand too, but for what its device did and whether it is Dead.
func wantFailed(t *testing.T, what string, was, now api.Store, err, want api.Errno) {
	t.Helper()
	if err != want {
		t.Fatalf("%s: error %d, want %d", what, err, want)
	}
	asked := now.Slab.Deeds - was.Slab.Deeds
	if now.Slab.Dead != (want == api.ErrDown) || asked < 0 || was.Slab.Left >= 0 && now.Slab.Left != was.Slab.Left-asked {
		t.Fatalf("%s: the device isn't as it is: %d deeds, dead %t, left %d of %d", what, asked, now.Slab.Dead, now.Slab.Left, was.Slab.Left)
	}
	if asked > 2*was.Head.Pages+2 {
		t.Fatalf("%s: %d deeds", what, asked)
	}
	now.Slab.Dead, now.Slab.Left, now.Slab.Deeds = was.Slab.Dead, was.Slab.Left, was.Slab.Deeds
	if !same(now, was) {
		t.Fatalf("%s: the store isn't as it was", what)
	}
}

// strange are numbers of pages that there aren't, in a store of so many.
func strange(pages int) []int {
	return []int{-1, -2, -pages, pages, pages + 1, 511 + pages, 512, 65535, 65536, 1 << 32, 1<<32 + 1, math.MinInt32, math.MaxInt32, math.MinInt, math.MinInt + 1, math.MaxInt, math.MaxInt - 1}
}

// P19.1
func TestMost(t *testing.T) {
	if Most() != 196 {
		t.Fatal(Most())
	}
}

// P19.1: one at least, and one more for each byte that has no room.
func TestNeed(t *testing.T) {
	want, room := 1, 196
	for size := range 30000 {
		if size > room {
			want, room = want+1, room+196
		}
		if got := Need(size); got != want {
			t.Fatalf("%d bytes: %d pages, want %d", size, got, want)
		}
	}
	for size, want := range map[int]int{-1: 1, -196: 1, -197: 1, -392: 1, math.MinInt: 1, math.MinInt + 1: 1, math.MaxInt32: 10956550, math.MaxInt: math.MaxInt/196 + 1} {
		if got := Need(size); got != want {
			t.Errorf("%d bytes: %d pages, want %d", size, got, want)
		}
	}
}

// P19.1: a text of each size, into an empty store: each page's bytes, one by one.
func TestPutLays(t *testing.T) {
	for size := 0; size <= 7*196; size++ {
		s := format(t, 9, 20)
		before := copied(s)
		it := text(size, size)
		n := max(1, (size+195)/196)
		now, begin := put(t, s, 0, it)
		if begin != 1 || !same(s, before) {
			t.Fatalf("%d bytes: begins at page %d", size, begin)
		}
		pages := partsOf(upTo(1, n), it)
		wantText(t, "put", now, 1, it, upTo(1, n))
		pages[0] = rootOf(0, upTo(0, n)...)
		wantPages(t, "put", now, pages)
		var dirty []api.Page
		for no := range n + 1 {
			dirty = append(dirty, api.Page{No: no, Data: pages[no]})
		}
		s.Dirty = dirty
		if !sameBut(now, s) || clock.Pins(now.Clock) != 0 {
			t.Fatalf("%d bytes: %+v", size, now.Dirty)
		}
		again := anew(t, now)
		wantText(t, "anew", again, 1, it, upTo(1, n))
		wantPages(t, "anew", again, pages)
	}
}

// P19.1: 200 bytes take two pages.
func TestExample(t *testing.T) {
	s, begin := put(t, format(t, 8, 4), 0, text(200, 1))
	wantText(t, "200 bytes", s, begin, text(200, 1), []int{1, 2})
}

// P19.1: a text of each number of pages in the place of one of each other, between two that stay: the old pages as far as it needs them, then the first free ones.
func TestPutReplaces(t *testing.T) {
	for was := 1; was <= 6; was++ {
		for now := 1; now <= 10; now++ {
			for _, less := range []int{0, 1, 195} {
				replaces(t, was, now, 196*now-less)
			}
		}
	}
	replaces(t, 1, 1, 0)
	replaces(t, 6, 1, 0)
}

// replaces puts a text of so many bytes in the place of one of was pages. Pages 1 and 2, and 6, are free, 3 to 5 and what stands behind the old text are others'.
func replaces(t *testing.T, was, now, size int) {
	t.Helper()
	s, begin := put(t, format(t, 30, 40), 0, text(2*196, 1))
	s, low := put(t, s, 0, text(3*196, 2))
	s, gap := put(t, s, 0, text(1, 3))
	s, old := put(t, s, 0, text(196*was-50, 4))
	s, high := put(t, s, 0, text(200, 5))
	s = dropped(t, dropped(t, s, begin), gap)
	first := s
	oldPages := upTo(7, 6+was)
	wantText(t, "old", s, old, text(196*was-50, 4), oldPages)
	highPages := []int{7 + was, 8 + was}
	free := append([]int{1, 2, 6}, upTo(9+was, 29)...)
	pages := oldPages[:min(was, now)]
	if now > was {
		pages = slices.Concat(oldPages, free[:now-was])
	}
	before := copied(s)
	s, at := put(t, s, old, text(size, 6))
	if at != old || !same(first, before) {
		t.Fatalf("%d pages for %d: begins at page %d, not %d; as it was: %t", now, was, at, old, same(first, before))
	}
	wantText(t, "new", s, at, text(size, 6), pages)
	wantText(t, "low", s, low, text(3*196, 2), []int{3, 4, 5})
	wantText(t, "high", s, high, text(200, 5), highPages)
	want := slices.Concat([]int{0, 3, 4, 5}, pages, highPages)
	slices.Sort(want)
	if got := takenOf(t, s); !slices.Equal(got, want) {
		t.Fatalf("%d pages for %d: taken %v, want %v", now, was, got, want)
	}
	for no, data := range partsOf(pages, text(size, 6)) {
		if got := page(t, s, no); got != data {
			t.Fatalf("%d pages for %d: page %d is %q, want %q", now, was, no, got, data)
		}
	}
	// What the text needs no more keeps its bytes: only its mark goes.
	for _, no := range oldPages[min(was, now):] {
		if page(t, s, no) != page(t, first, no) {
			t.Fatalf("%d pages for %d: page %d was written", now, was, no)
		}
	}
}

// P19.1: where a store is full, by one page; what the old text leaves counts as free.
func TestPutFull(t *testing.T) {
	for _, pages := range []int{8, 9, 40, 511, 512} {
		s := format(t, pages, 512)
		room := 196 * (pages - 1)
		for _, size := range []int{room + 1, room + 196, room + 197, 3 * room, 513 * 196, 1 << 20} {
			wantPutErr(t, "empty", s, 0, size, api.ErrFull)
		}
		full, begin := put(t, s, 0, text(room, 1))
		wantText(t, "full", full, begin, text(room, 1), upTo(1, pages-1))
		for _, size := range []int{0, 1, 196, 197, room} {
			wantPutErr(t, "full", full, 0, size, api.ErrFull)
		}
		wantPutErr(t, "full", full, begin, room+1, api.ErrFull)
		full, _ = put(t, full, begin, text(room, 2))
		wantText(t, "as many", full, begin, text(room, 2), upTo(1, pages-1))
		less, _ := put(t, full, begin, text(room-196, 3))
		wantText(t, "one fewer", less, begin, text(room-196, 3), upTo(1, pages-2))
		wantPutErr(t, "one free", less, 0, 197, api.ErrFull)
		less, other := put(t, less, 0, text(196, 4))
		wantText(t, "the last one", less, other, text(196, 4), []int{pages - 1})
		wantPutErr(t, "full again", less, other, 197, api.ErrFull)
		wantPutErr(t, "full again", less, 0, 0, api.ErrFull)
		less = dropped(t, less, begin)
		wantPutErr(t, "too much", less, 0, room-195, api.ErrFull)
		less, begin = put(t, less, other, text(room, 5))
		wantText(t, "all of it", less, begin, text(room, 5), append([]int{pages - 1}, upTo(1, pages-2)...))
	}
}

// P19.1: page 0 is marked as taken by a Put, whatever it was, and its other bytes stay.
func TestPutMarksRoot(t *testing.T) {
	tail := strings.Repeat("z", 134)
	root := rootOf(300, 1, 3)[:66] + tail
	s := laid(t, format(t, 8, 8), map[int]string{0: root})
	now, begin := put(t, s, 0, text(3*196, 1))
	wantText(t, "put", now, begin, text(3*196, 1), []int{2, 4, 5})
	if got := page(t, now, 0); got != rootOf(300, 0, 1, 2, 3, 4, 5)[:66]+tail {
		t.Fatalf("put: %q", got)
	}
	now = dropped(t, now, begin)
	if got := page(t, now, 0); got != rootOf(300, 0, 1, 3)[:66]+tail {
		t.Fatalf("drop: %q", got)
	}
}

// P19.1: Drop frees a text's pages, and writes page 0 alone.
func TestDrop(t *testing.T) {
	for n := 1; n <= 6; n++ {
		s, a := put(t, format(t, 20, 30), 0, text(300, 1))
		s, b := put(t, s, 0, text(196*n, 2))
		s, c := put(t, s, 0, text(300, 3))
		before := copied(s)
		now := dropped(t, s, b)
		if !same(s, before) || clock.Pins(now.Clock) != 0 {
			t.Fatal("drop changed what it was given")
		}
		s.Dirty = slices.Clone(s.Dirty)
		s.Dirty[0] = api.Page{Data: rootOf(0, append([]int{0, 1, 2}, n+3, n+4)...)}
		if !sameBut(now, s) {
			t.Fatalf("%d pages: %q", n, page(t, now, 0))
		}
		wantText(t, "ahead", now, a, text(300, 1), []int{1, 2})
		wantText(t, "behind", now, c, text(300, 3), []int{n + 3, n + 4})
	}
}

// P19.1: on a store without texts, too: a page of noughts is an empty text.
func TestDropOfNoughts(t *testing.T) {
	s := format(t, 8, 8)
	now := dropped(t, s, 5)
	s.Dirty = []api.Page{{Data: padded("")}}
	if !sameBut(now, s) {
		t.Fatalf("%+v", now.Dirty)
	}
	wantText(t, "noughts", now, 5, "", []int{5})
}

// P19.1: a text may begin at any page of one: what is dropped is the rest alone.
func TestDropOfRest(t *testing.T) {
	it := text(4*196+9, 1)
	s, _ := put(t, format(t, 8, 8), 0, it)
	wantText(t, "rest", s, 3, it[2*196:], []int{3, 4, 5})
	s = dropped(t, s, 3)
	if got := takenOf(t, s); !slices.Equal(got, []int{0, 1, 2}) {
		t.Fatal(got)
	}
}

// P19.1: pages in any order, with fewer bytes than there is room for, and with other bytes behind them.
func TestReadOfRawPages(t *testing.T) {
	s := laid(t, format(t, 8, 8), map[int]string{
		6: pageOf(2, 3, "abcdefg"),
		2: pageOf(7, 0, "xyz"),
		7: pageOf(1, 196, text(196, 1)),
		1: pageOf(0, 1, "hi"),
	})
	all := "abc" + text(196, 1) + "h"
	wantText(t, "raw", s, 6, all, []int{6, 2, 7, 1})
	wantText(t, "raw", s, 2, all[3:], []int{2, 7, 1})
	s = anew(t, s)
	wantText(t, "raw, anew", s, 6, all, []int{6, 2, 7, 1})
	wantText(t, "raw, anew", s, 1, "h", []int{1})
}

// P19.1: as many pages as there are, but page 0, are a text; one that leads back to its own isn't.
func TestLongest(t *testing.T) {
	for _, pages := range []int{8, 9, 100, 512} {
		raw, falling, all := map[int]string{}, []int(nil), ""
		for no := pages - 1; no > 0; no-- {
			letter := string(rune('a' + no%26))
			raw[no] = pageOf(no-1, 1, letter)
			falling, all = append(falling, no), all+letter
		}
		s := laid(t, format(t, pages, 8), raw)
		wantText(t, "longest", s, pages-1, all, falling)
		for _, back := range []int{1, 2, pages / 2, pages - 1} {
			wantErr(t, "round about", laid(t, s, map[int]string{1: pageOf(back, 1, "a")}), pages-1, api.ErrForm)
		}
	}
}

// P19.1: rounds of each length, behind each number of pages that lead to them.
func TestRounds(t *testing.T) {
	for ahead := range 7 {
		for long := 1; ahead+long <= 7; long++ {
			raw := map[int]string{}
			for no := 1; no < ahead+long; no++ {
				raw[no] = pageOf(no+1, 0, "")
			}
			raw[ahead+long] = pageOf(ahead+1, 196, text(196, 1))
			s := laid(t, format(t, 8, 10), raw)
			for no := 1; no <= ahead+long; no++ {
				wantErr(t, "round", s, no, api.ErrForm)
			}
			s = anew(t, s)
			wantErr(t, "round, anew", s, 1, api.ErrForm)
		}
	}
}

// P19.1: more than 196 bytes, in the first page, or in a later one.
func TestTooManyBytes(t *testing.T) {
	for _, size := range []int{197, 198, 200, 201, 255, 256, 257, 452, 511, 512, 32767, 32768, 65535} {
		for at := 1; at <= 4; at++ {
			it := text(4*196, 1)
			s, _ := put(t, format(t, 8, 8), 0, it)
			s = laid(t, s, map[int]string{at: pageOf((at+1)%5, size, it[:196])})
			for no := 1; no <= at; no++ {
				wantErr(t, "bytes", s, no, api.ErrForm)
			}
			if at < 4 {
				wantText(t, "behind it", s, at+1, it[196*at:], upTo(at+1, 4))
			}
			wantErr(t, "bytes, anew", anew(t, s), 1, api.ErrForm)
		}
	}
	s := laid(t, format(t, 8, 8), map[int]string{1: pageOf(0, 196, text(196, 1))})
	wantText(t, "196", s, 1, text(196, 1), []int{1})
}

// P19.1: which of two errors of one page, and of two pages, is told: pages are read one by one.
func TestWhichError(t *testing.T) {
	s := laid(t, format(t, 8, 8), map[int]string{1: pageOf(9, 197, ""), 2: pageOf(9, 196, ""), 3: pageOf(1, 5, "")})
	wantErr(t, "bytes, and no page behind", s, 1, api.ErrForm)
	wantErr(t, "no page behind", s, 2, api.ErrArg)
	wantErr(t, "bytes in the second", s, 3, api.ErrForm)
}

// P19.1: pages that there aren't, and page 0, which is no text's.
func TestNoSuchPage(t *testing.T) {
	for _, pages := range []int{8, 20, 512} {
		s, _ := put(t, format(t, pages, 20), 0, text(500, 1))
		for _, x := range []api.Store{s, anew(t, s), format(t, pages, 20)} {
			wantErr(t, "page 0", x, 0, api.ErrArg)
			for _, no := range strange(pages) {
				wantErr(t, "strange", x, no, api.ErrArg)
			}
		}
		for _, next := range []int{pages, pages + 1, 512, 513, 1024, 32768, 65535} {
			x := laid(t, s, map[int]string{3: pageOf(next, 3, "abc")})
			wantErr(t, "strange, behind", x, 1, api.ErrArg)
			wantErr(t, "strange, behind", x, 3, api.ErrArg)
		}
	}
}

// P19.1: a page that isn't there, and page 0, are told ahead of a device without power, as layer 18 does.
func TestWithoutPower(t *testing.T) {
	s, begin := put(t, format(t, 8, 20), 0, text(500, 1))
	for _, x := range []api.Store{s, anew(t, s)} {
		x = down(x)
		for no := 1; no < 8; no++ {
			wantDown(t, x, no)
		}
		wantDown(t, x, begin)
		for _, size := range []int{0, 1, 2000, 200 * 513} {
			now, no, err := Put(x, 0, text(size, 1))
			if err != api.ErrDown || no != 0 || !same(now, x) {
				t.Fatalf("put: error %d, page %d", err, no)
			}
		}
		for _, no := range append(strange(8), 0) {
			now, it, err := Read(x, no)
			if err != api.ErrArg || it != "" || !same(now, x) {
				t.Fatalf("page %d: error %d", no, err)
			}
		}
	}
}

// wantDown wants ErrDown of all calls at a page, and the store as it was.
func wantDown(t *testing.T, s api.Store, no int) {
	t.Helper()
	r, it, a := Read(s, no)
	p, pages, b := Pages(s, no)
	d, c := Drop(s, no)
	u, begin, e := Put(s, no, "ab")
	for i, err := range []api.Errno{a, b, c, e} {
		if err != api.ErrDown {
			t.Fatalf("page %d, call %d: error %d", no, i, err)
		}
	}
	if it != "" || len(pages) > 0 || begin != 0 || !same(r, s) || !same(p, s) || !same(d, s) || !same(u, s) {
		t.Fatalf("page %d: something beside an error", no)
	}
}

// P19.1, P4: the power goes behind each deed of each call: then the store is as it was, and its device Dead; else all is done.
func TestPowerGoes(t *testing.T) {
	s, begin := put(t, format(t, 16, 40), 0, text(1000, 1))
	s, other := put(t, s, 0, text(5, 2))
	s = anew(t, s)
	calls := map[string]func(api.Store) (api.Store, api.Errno){
		"read":  func(s api.Store) (api.Store, api.Errno) { s, _, err := Read(s, begin); return s, err },
		"pages": func(s api.Store) (api.Store, api.Errno) { s, _, err := Pages(s, begin); return s, err },
		"drop":  func(s api.Store) (api.Store, api.Errno) { return Drop(s, begin) },
		"put":   func(s api.Store) (api.Store, api.Errno) { s, _, err := Put(s, 0, text(700, 3)); return s, err },
		"less":  func(s api.Store) (api.Store, api.Errno) { s, _, err := Put(s, begin, text(300, 3)); return s, err },
		"more":  func(s api.Store) (api.Store, api.Errno) { s, _, err := Put(s, begin, text(1500, 3)); return s, err },
	}
	least := map[string]int{"read": 6, "pages": 6, "drop": 7, "put": 1, "less": 7, "more": 7}
	for what, call := range calls {
		whole, err := call(s)
		if err != api.OK {
			t.Fatalf("%s: error %d", what, err)
		}
		deeds := whole.Slab.Deeds - s.Slab.Deeds
		// Each page has to be got, since none is at hand; and P4's bound.
		if deeds < least[what] || deeds > 20*(16+40)*64+200 {
			t.Fatalf("%s: %d deeds", what, deeds)
		}
		for left := range deeds + 2 {
			armed := s
			armed.Slab = slab.Arm(s.Slab, left)
			before := copied(armed)
			now, err := call(armed)
			if !same(armed, before) {
				t.Fatalf("%s, %d deeds left: handed in, and changed", what, left)
			}
			if left < deeds {
				wantFailed(t, what, armed, now, err, api.ErrDown)
				now.Slab = slab.Start(now.Slab, api.Fate{Torn: -1})
				wantText(t, what, now, begin, text(1000, 1), upTo(1, 6))
				wantText(t, what, now, other, text(5, 2), []int{7})
			} else if err != api.OK || !sameBut(now, whole) || now.Slab.Dead {
				t.Fatalf("%s, %d deeds left of %d: error %d", what, left, deeds, err)
			}
		}
	}
}

// P19.1: layer 18's error of a page whose frame of the log is none: of a text's page, and of page 0.
func TestSpoiledFrame(t *testing.T) {
	s, begin := put(t, format(t, 8, 20), 0, text(500, 1))
	s, err := store.Commit(s)
	if err != api.OK {
		t.Fatal(err)
	}
	s.Clock = api.Clock{}
	for i := range 4 {
		x := s
		x.Slab.Sure = slices.Clone(s.Slab.Sure)
		x.Slab.Sure[head.Log(s.Head, i)] = leaf.Print(api.Page{No: i, Data: leaf.Blank()})
		if i > 0 {
			wantErr(t, "spoiled", x, begin, api.ErrForm)
			wantErr(t, "spoiled", x, i, api.ErrForm)
			continue
		}
		// Page 0 is spoiled: texts are read all the same, but neither dropped nor put.
		wantText(t, "root", x, begin, text(500, 1), []int{1, 2, 3})
		now, err := Drop(x, begin)
		wantFailed(t, "root: drop", x, now, err, api.ErrForm)
		for _, size := range []int{0, 100, 200 * 513} {
			wantPutErr(t, "root", x, begin, size, api.ErrForm)
			wantPutErr(t, "root", x, 0, size, api.ErrForm)
		}
	}
}

// P19.1: a page that isn't taken, in whose place a text is put, is taken once, and by that text.
func TestPutAtFreePage(t *testing.T) {
	for no := 1; no < 8; no++ {
		for n := 1; n <= 7; n++ {
			s, begin := put(t, format(t, 8, 20), no, text(196*n, n))
			rest := slices.DeleteFunc(upTo(1, 7), func(x int) bool { return x == no })
			pages := append([]int{no}, rest[:n-1]...)
			if begin != no {
				t.Fatalf("page %d: begins at %d", no, begin)
			}
			wantText(t, "free page", s, begin, text(196*n, n), pages)
			taken := append([]int{0}, pages...)
			slices.Sort(taken)
			if got := takenOf(t, s); !slices.Equal(got, taken) {
				t.Fatalf("page %d, %d pages: taken %v, want %v", no, n, got, taken)
			}
		}
	}
}

// A shelf is a store, and beside it which texts it has, in which pages.
type shelf struct {
	t     *testing.T
	s     api.Store
	texts map[int]string
	pages map[int][]int
}

// free are the pages that are no text's, rising.
func (x *shelf) free() []int {
	taken := map[int]bool{0: true}
	for _, l := range x.pages {
		for _, no := range l {
			taken[no] = true
		}
	}
	return slices.DeleteFunc(upTo(0, x.s.Head.Pages-1), func(no int) bool { return taken[no] })
}

// put puts a text, here and beside, and wants ErrFull just where there is no room.
func (x *shelf) put(no int, it string) {
	x.t.Helper()
	old := x.pages[no]
	need := max(1, (len(it)+195)/196)
	before := copied(x.s)
	now, begin, err := Put(x.s, no, it)
	if !same(x.s, before) {
		x.t.Fatal("put: handed in, and changed")
	}
	free := x.free()
	if need-len(old) > len(free) {
		wantFailed(x.t, "no room", x.s, now, err, api.ErrFull)
		return
	}
	pages := slices.Concat(old[:min(len(old), need)], free[:max(0, need-len(old))])
	if err != api.OK || begin != pages[0] {
		x.t.Fatalf("put: page %d, error %d, want page %d", begin, err, pages[0])
	}
	x.s = now
	x.texts[begin], x.pages[begin] = it, pages
}

// drop drops a text, here and beside.
func (x *shelf) drop(no int) {
	x.t.Helper()
	x.s = dropped(x.t, x.s, no)
	delete(x.texts, no)
	delete(x.pages, no)
}

// want wants all texts as they are beside, and just their pages taken, each by one of them.
func (x *shelf) want() {
	x.t.Helper()
	taken := []int{0}
	for no, it := range x.texts {
		wantText(x.t, "shelf", x.s, no, it, x.pages[no])
		taken = append(taken, x.pages[no]...)
	}
	slices.Sort(taken)
	if got := takenOf(x.t, x.s); !slices.Equal(got, taken) || len(slices.Compact(taken)) != len(taken) {
		x.t.Fatalf("taken %v, want %v", got, taken)
	}
}

// any is one of the texts; page 0, if there is none.
func (x *shelf) any(r *rand.Rand) int {
	if len(x.texts) == 0 {
		return 0
	}
	return slices.Sorted(maps.Keys(x.texts))[r.Intn(len(x.texts))]
}

// P19.2: many texts put, put anew and dropped, committed and opened anew in between: no page is two texts', each stays where it began.
func TestEachItsOwn(t *testing.T) {
	for seed := range 30 {
		r := rand.New(rand.NewSource(int64(seed)))
		pages := 8 + r.Intn(40)
		x := &shelf{t: t, s: format(t, pages, 100), texts: map[int]string{}, pages: map[int][]int{}}
		x.put(0, "first")
		for step := range 150 {
			it := text(r.Intn(1+r.Intn(196*pages/2)), step)
			switch r.Intn(8) {
			case 0, 1, 2:
				x.put(0, it)
			case 3, 4:
				x.put(x.any(r), it)
			case 5, 6:
				if no := x.any(r); no > 0 {
					x.drop(no)
				}
			default:
				x.s = anew(t, x.s)
			}
			x.want()
		}
	}
}

// P19.2: what was put since the last commit goes with Abort, whole.
func TestAbort(t *testing.T) {
	s, begin := put(t, format(t, 12, 40), 0, text(600, 1))
	s, err := store.Commit(s)
	if err != api.OK {
		t.Fatal(err)
	}
	now, _ := put(t, s, begin, text(1000, 2))
	now, other := put(t, now, 0, text(300, 3))
	now = dropped(t, now, begin)
	wantText(t, "put", now, other, text(300, 3), []int{7, 8})
	now = store.Abort(now)
	wantText(t, "taken back", now, begin, text(600, 1), []int{1, 2, 3, 4})
	if got := takenOf(t, now); !slices.Equal(got, upTo(0, 4)) {
		t.Fatal(got)
	}
}

// Rule 3: an answer is new memory: a list of pages may be changed by who asked for it.
func TestPagesAreNew(t *testing.T) {
	s, begin := put(t, format(t, 12, 40), 0, text(600, 1))
	_, l, _ := Pages(s, begin)
	for i := range l {
		l[i] = 77
	}
	_ = append(l, 78)
	wantText(t, "again", s, begin, text(600, 1), []int{1, 2, 3, 4})
}

// Rule 3: a store's spare room is not written into.
func TestSpareRoom(t *testing.T) {
	s, begin := put(t, format(t, 12, 40), 0, text(600, 1))
	s.Dirty = slices.Grow(s.Dirty, 10)
	spare := s.Dirty[:cap(s.Dirty)]
	before := slices.Clone(spare)
	Put(s, 0, text(600, 2))
	Put(s, begin, text(1000, 3))
	Drop(s, begin)
	Read(s, begin)
	if !slices.Equal(spare, before) {
		t.Fatal("spare room was written into")
	}
}

// Rules 5 and 4 of the language: nothing panics, and all ends, of stores that no call has made, too.
func TestRawStores(t *testing.T) {
	good := format(t, 8, 8)
	round := laid(t, good, map[int]string{1: pageOf(1, 0, ""), 2: pageOf(40000, 0, "")})
	great := round
	great.Head.Pages = math.MaxInt
	none := round
	none.Head.Pages = math.MinInt
	short := good
	for no, data := range []string{"", "", "\x00", "\x00\x02\x00", "\x00\x02\x00\x05abcd", "\x00\x02\x00\x00"} {
		short.Dirty = append(short.Dirty, api.Page{No: no, Data: data})
	}
	for _, s := range []api.Store{{}, {Head: api.Head{Pages: 8}}, round, great, none, short, {Slab: api.Slab{Left: -1}, Head: good.Head}} {
		for no := -2; no < 10; no++ {
			Read(s, no)
			Pages(s, no)
			Drop(s, no)
			for _, size := range []int{0, 197, 200000} {
				Put(s, no, text(size, 1))
			}
		}
	}
	for no := 1; no <= 5; no++ {
		if _, it, err := Read(short, no); err != api.ErrForm || it != "" {
			t.Errorf("a page of too few bytes, %d: %q, error %d", no, it, err)
		}
	}
}

// Rules 4 and 6: many may call at once, and all are answered the same.
func TestAtOnce(t *testing.T) {
	s, begin := put(t, format(t, 12, 40), 0, text(600, 1))
	s = anew(t, s)
	want, _ := put(t, s, begin, text(1200, 2))
	before := copied(s)
	var wait sync.WaitGroup
	for range 8 {
		wait.Go(func() {
			for range 20 {
				now, at, err := Put(s, begin, text(1200, 2))
				_, it, _ := Read(now, at)
				if err != api.OK || at != begin || !same(now, want) || it != text(1200, 2) {
					t.Error("another answer")
				}
			}
		})
	}
	wait.Wait()
	if !same(s, before) {
		t.Error("handed in, and changed")
	}
}
