package store

import (
	"encoding/binary"
	"hash/crc32"
	"maps"
	"math"
	"math/rand"
	"slices"
	"strings"
	"sync"
	"testing"

	"mosaicist/api"
	"mosaicist/clock"
	"mosaicist/slab"
)

// noughts is so many bytes of 0, and padded the bytes of a page that begins with data.
func noughts(n int) string      { return strings.Repeat("\x00", n) }
func padded(data string) string { return data + noughts(200-len(data)) }

// sectorOf is a sector of a beginning, numbers and bytes, with its sum, by another way.
func sectorOf(begin, data string, numbers ...int) string {
	b := []byte(begin)
	for _, n := range numbers {
		b = binary.BigEndian.AppendUint32(b, uint32(n))
	}
	b = append(b, data...)
	b = append(b, noughts(252-len(b))...)
	return string(binary.BigEndian.AppendUint32(b, crc32.ChecksumIEEE(b)))
}

// The kinds of sectors, by another way.
func headSector(h api.Head) string             { return sectorOf("MOSAIC01", "", h.Pages, h.Log, h.Epoch) }
func homeSector(no int, data string) string    { return sectorOf("PAGE", padded(data), no) }
func commitSector(epoch, at, pages int) string { return sectorOf("LOGC", "", epoch, at, pages) }
func pageSector(epoch, at, no int, data string) string {
	return sectorOf("LOGP", padded(data), epoch, at, no)
}

// same compares stores; a list that holds nothing may be nil or empty.
func same(a, b api.Store) bool {
	return sameSlab(a.Slab, b.Slab) && a.Head == b.Head && a.Tail == b.Tail &&
		slices.Equal(a.Fresh, b.Fresh) && slices.Equal(a.Dirty, b.Dirty) &&
		slices.Equal(a.Clock.Held, b.Clock.Held) && a.Clock.Hand == b.Clock.Hand
}

func sameSlab(a, b api.Slab) bool {
	return slices.Equal(a.Sure, b.Sure) && slices.Equal(a.Late, b.Late) && a.Dead == b.Dead && a.Left == b.Left && a.Deeds == b.Deeds
}

// copied shares nothing with the store.
func copied(s api.Store) api.Store {
	s.Slab.Sure, s.Slab.Late = slices.Clone(s.Slab.Sure), slices.Clone(s.Slab.Late)
	s.Fresh, s.Dirty, s.Clock.Held = slices.Clone(s.Fresh), slices.Clone(s.Dirty), slices.Clone(s.Clock.Held)
	return s
}

// on is s on another device.
func on(s api.Store, d api.Slab) api.Store {
	s.Slab = d
	return s
}

// want wants that store, and that error.
func want(t *testing.T, what string, got, want api.Store, err, wantErr api.Errno) {
	t.Helper()
	if err != wantErr {
		t.Fatalf("%s: error %d, want %d", what, err, wantErr)
	}
	if !same(got, want) {
		short := func(s api.Store) api.Store { s.Slab.Sure = nil; return s }
		t.Fatalf("%s: %+v, want %+v; sectors the same: %t", what, short(got), short(want), slices.Equal(got.Slab.Sure, want.Slab.Sure))
	}
}

// A deed is what a call asks a device for.
type deed struct {
	kind string
	at   int
	data string
}

func get(at int) deed              { return deed{kind: "get", at: at} }
func put(at int, data string) deed { return deed{kind: "put", at: at, data: data} }
func flush() deed                  { return deed{kind: "flush"} }

// done is a device behind such deeds, as far as it has power for them.
func done(t *testing.T, d api.Slab, l []deed) (api.Slab, api.Errno) {
	t.Helper()
	for _, x := range l {
		err := api.OK
		switch x.kind {
		case "get":
			d, _, err = slab.Get(d, x.at)
		case "put":
			d, err = slab.Put(d, x.at, x.data)
		default:
			d, err = slab.Flush(d)
		}
		if err == api.ErrDown {
			return d, err
		}
		if err != api.OK {
			t.Fatalf("%+v: error %d", x, err)
		}
	}
	return d, api.OK
}

// A stage is a part of a call: its deeds, and the store behind it, but for its device.
type stage struct {
	deeds  []deed
	behind api.Store
}

// wantStages does a call on devices that do any number of deeds yet: the store is that behind the last stage that was whole, with the device as it is.
func wantStages(t *testing.T, what string, s api.Store, call func(api.Store) (api.Store, api.Errno), stages ...stage) {
	t.Helper()
	deeds := 0
	for _, st := range stages {
		deeds += len(st.deeds)
	}
	for left := -1; left <= deeds+2; left++ {
		armed := on(s, slab.Arm(s.Slab, left))
		wanted, wantErr := armed, api.OK
		for _, st := range stages {
			d, err := done(t, wanted.Slab, st.deeds)
			if err != api.OK {
				wanted, wantErr = on(wanted, d), err
				break
			}
			wanted = on(st.behind, d)
		}
		if (wantErr == api.OK) != (left < 0 || left >= deeds) {
			t.Fatalf("%s: %d deeds of %d: error %d", what, left, deeds, wantErr)
		}
		before := copied(armed)
		got, err := call(armed)
		want(t, what, got, wanted, err, wantErr)
		want(t, what+", handed in", armed, before, api.OK, api.OK)
	}
}

// checkDeeds are the deeds of a Check of a store whose pages have such sure bytes.
func checkDeeds(s api.Store, sure []string) []deed {
	var l []deed
	for _, x := range s.Fresh {
		l = append(l, get(2+s.Head.Pages+x.At), put(2+x.Page, homeSector(x.Page, sure[x.Page])))
	}
	next := s.Head
	next.Epoch++
	return append(l, flush(), put(next.Epoch%2, headSector(next)), flush())
}

// checked is a store behind a Check, but for its device.
func checked(s api.Store) api.Store {
	s.Head.Epoch++
	s.Tail, s.Fresh = 0, nil
	return s
}

// commitDeeds are those of a Commit for which there is room.
func commitDeeds(s api.Store) []deed {
	var l []deed
	at := 2 + s.Head.Pages + s.Tail
	for i, p := range s.Dirty {
		l = append(l, put(at+i, pageSector(s.Head.Epoch, s.Tail+i, p.No, p.Data)))
	}
	n := len(s.Dirty)
	return append(l, put(at+n, commitSector(s.Head.Epoch, s.Tail+n, n)), flush())
}

// committed is a store behind a Commit for which there was room, but for its device.
func committed(s api.Store) api.Store {
	places := map[int]int{}
	for _, x := range s.Fresh {
		places[x.Page] = x.At
	}
	for i, p := range s.Dirty {
		places[p.No] = s.Tail + i
		s.Clock = clock.Put(s.Clock, p)
	}
	s.Tail += len(s.Dirty) + 1
	s.Fresh, s.Dirty = images(places), nil
	return s
}

// images are pages' places in the log, by rising pages.
func images(places map[int]int) []api.Image {
	var l []api.Image
	for _, no := range slices.Sorted(maps.Keys(places)) {
		l = append(l, api.Image{Page: no, At: places[no]})
	}
	return l
}

// A book is a store, and beside it what its pages have: sure, and now.
type book struct {
	t         *testing.T
	s         api.Store
	sure, now []string
}

// format begins a book.
func format(t *testing.T, pages, log int) book {
	t.Helper()
	s, err := Format(pages, log)
	if err != api.OK {
		t.Fatalf("%d pages, a log of %d: error %d", pages, log, err)
	}
	blank := slices.Repeat([]string{noughts(200)}, pages)
	return book{t: t, s: s, sure: blank, now: blank}
}

// good wants no error, and goes on with the store.
func (b *book) good(s api.Store, err api.Errno) {
	b.t.Helper()
	if err != api.OK {
		b.t.Fatalf("error %d", err)
	}
	b.s = s
}

func (b *book) write(no int, data string) {
	b.t.Helper()
	b.good(Write(b.s, no, data))
	b.now = slices.Clone(b.now)
	b.now[no] = padded(data)
}

func (b *book) commit() {
	b.t.Helper()
	b.good(Commit(b.s))
	b.sure = b.now
}

func (b *book) check() {
	b.t.Helper()
	b.good(Check(b.s))
}

func (b *book) abort() {
	b.s, b.now = Abort(b.s), b.sure
}

// open opens the store anew, as its device is.
func (b *book) open() {
	b.t.Helper()
	s, _, err := Open(b.s.Slab)
	b.good(s, err)
	b.now = b.sure
}

// writes writes pages, and saves commits them.
func (b *book) writes(data string, pages ...int) {
	b.t.Helper()
	for _, no := range pages {
		b.write(no, data)
	}
}

func (b *book) saves(data string, pages ...int) {
	b.t.Helper()
	b.writes(data, pages...)
	b.commit()
}

// wantNow reads all pages, and wants them as they are now.
func (b *book) wantNow(what string) {
	b.t.Helper()
	if !reads(b.s, b.now) {
		b.t.Fatalf("%s: other pages", what)
	}
}

// reads tells whether a store has such pages.
func reads(s api.Store, pages []string) bool {
	for no := range pages {
		next, data, err := Read(s, no)
		if err != api.OK || data != pages[no] {
			return false
		}
		s = next
	}
	return len(pages) == s.Head.Pages
}

// strange are numbers of pages that there aren't, on a device of so many.
func strange(pages int) []int {
	return []int{-1, -2, -pages, pages, pages + 1, pages + 2, 512, 513, 1 << 32, math.MinInt32, math.MaxInt32, math.MinInt, math.MinInt + 2, math.MaxInt, math.MaxInt - 2}
}

// down is s on a device without power.
func down(s api.Store) api.Store {
	s.Slab.Dead = true
	return s
}

// someBooks are stores as calls make them: with and without pages in the log, at home, at hand and written.
func someBooks(t *testing.T) []book {
	t.Helper()
	l := []book{format(t, 8, 4), format(t, 512, 512)}
	b := format(t, 10, 7)
	b.saves("one", 3)
	l = append(l, b)
	b.saves("two", 9, 0, 3)
	l = append(l, b)
	b.writes("written", 9, 1, 5)
	l = append(l, b)
	b.check()
	l = append(l, b)
	b.commit()
	l = append(l, b)
	b.open()
	b.saves("three", 4, 2)
	b.writes("again", 2, 7)
	l = append(l, b)
	full := format(t, 12, 12)
	full.saves("a", 0, 1, 2, 3, 4, 5, 6, 7, 8, 9, 10)
	l = append(l, full)
	full.saves("b", 11)
	full.saves("c", 11, 0, 5)
	full.saves("d", 0, 6, 8, 10)
	full.s.Slab = slab.Arm(full.s.Slab, -1)
	return append(l, full)
}

// P18.1

func TestFormat(t *testing.T) {
	for _, pages := range []int{8, 9, 255, 511, 512} {
		for _, log := range []int{4, 5, 100, 511, 512} {
			h := api.Head{Pages: pages, Log: log, Epoch: 1}
			d := api.Slab{Sure: slices.Repeat([]string{noughts(256)}, 2+pages+log), Left: -1, Deeds: 2}
			d.Sure[1] = headSector(h)
			got, err := Format(pages, log)
			want(t, "a new one", got, api.Store{Slab: d, Head: h}, err, api.OK)
		}
	}
}

func TestFormatWrong(t *testing.T) {
	for _, n := range []int{-1, 0, 1, 3, 513, 514, 600, 1991, 1 << 32, 8 + 1<<32, math.MinInt, math.MaxInt} {
		for _, c := range [][2]int{{n, 4}, {8, n}, {n, n}, {512, n}, {n, 512}} {
			got, err := Format(c[0], c[1])
			want(t, "no such size", got, api.Store{}, err, api.ErrArg)
		}
	}
	for pages := range 8 {
		got, err := Format(pages, 4)
		want(t, "too few pages", got, api.Store{}, err, api.ErrArg)
	}
}

// wantRead wants a page's bytes, and the store behind it.
func wantRead(t *testing.T, what string, s api.Store, no int, data string, behind api.Store, wantErr api.Errno) {
	t.Helper()
	before := copied(s)
	got, text, err := Read(s, no)
	if text != data {
		t.Fatalf("%s: page %d: %q, want %q", what, no, text, data)
	}
	want(t, what, got, behind, err, wantErr)
	want(t, what+", handed in", s, before, api.OK, api.OK)
}

// read is the store behind a deed by which a page came to hand.
func read(s api.Store, no int, data string) api.Store {
	s.Slab.Deeds++
	s.Clock = clock.Put(s.Clock, api.Page{No: no, Data: data})
	return s
}

// TestReadBlank reads pages that were never written, each by one deed, and once more by none.
func TestReadBlank(t *testing.T) {
	s := format(t, 12, 4).s
	for no := range 12 {
		behind := read(s, no, noughts(200))
		wantRead(t, "never written", s, no, noughts(200), behind, api.OK)
		wantRead(t, "at hand", behind, no, noughts(200), behind, api.OK)
		s = behind
	}
	if s.Slab.Deeds != 14 || clock.Find(s.Clock, 11) != 3 {
		t.Errorf("%d deeds, %+v", s.Slab.Deeds, s.Clock)
	}
}

// TestReadOrder has a page's bytes in all places, and takes them away, one by one.
func TestReadOrder(t *testing.T) {
	b := format(t, 8, 8)
	b.saves("home", 0, 1, 5)
	b.check()
	b.saves("log", 1, 6)
	b.write(1, "dirty")
	s := b.s
	s.Clock = clock.Put(s.Clock, api.Page{No: 1, Data: "hand"})
	s.Clock.Held[clock.Find(s.Clock, 1)].Ref = false
	wantRead(t, "written", s, 1, padded("dirty"), s, api.OK)
	s = Abort(s)
	asked := copied(s)
	asked.Clock.Held[clock.Find(s.Clock, 1)].Ref = true
	wantRead(t, "at hand", s, 1, "hand", asked, api.OK)
	s.Clock = api.Clock{}
	wantRead(t, "in the log", s, 1, padded("log"), read(s, 1, padded("log")), api.OK)
	wantRead(t, "at home, beside others in the log", s, 5, padded("home"), read(s, 5, padded("home")), api.OK)
	wantRead(t, "nowhere, beside others in the log", s, 4, noughts(200), read(s, 4, noughts(200)), api.OK)
	s.Fresh = nil
	wantRead(t, "at home", s, 1, padded("home"), read(s, 1, padded("home")), api.OK)
}

// TestReadEach reads each page of some stores without pages at hand, and wants one deed of each that isn't written.
func TestReadEach(t *testing.T) {
	for _, b := range someBooks(t) {
		b.s.Clock = api.Clock{}
		for no, data := range b.now {
			behind := b.s
			if !slices.ContainsFunc(b.s.Dirty, func(p api.Page) bool { return p.No == no }) {
				behind = read(b.s, no, data)
			}
			wantRead(t, "each", b.s, no, data, behind, api.OK)
			back := Abort(b.s)
			wantRead(t, "taken back", back, no, b.sure[no], read(back, no, b.sure[no]), api.OK)
		}
	}
}

// TestReadHeld reads where pages are held, and all of them: what isn't at hand then takes a deed each time.
func TestReadHeld(t *testing.T) {
	b := format(t, 12, 4)
	for no := range 8 {
		b.s, _, _ = Read(b.s, no)
		b.s.Clock, _ = clock.Pin(b.s.Clock, no, true)
	}
	behind := b.s
	behind.Slab.Deeds++
	wantRead(t, "all held", b.s, 9, noughts(200), behind, api.OK)
	b.s.Clock, _ = clock.Pin(b.s.Clock, 4, false)
	behind = read(b.s, 9, noughts(200))
	wantRead(t, "one isn't held", b.s, 9, noughts(200), behind, api.OK)
	if clock.Find(behind.Clock, 9) != 4 {
		t.Errorf("%+v", behind.Clock)
	}
}

// TestReadWrong wants ErrArg of pages that there aren't, ahead of ErrDown, and nothing changed.
func TestReadWrong(t *testing.T) {
	for _, b := range someBooks(t) {
		for _, no := range strange(b.s.Head.Pages) {
			for _, s := range []api.Store{b.s, down(b.s), on(b.s, slab.Arm(b.s.Slab, 0))} {
				if no < 0 || no >= s.Head.Pages {
					wantRead(t, "no such page", s, no, "", s, api.ErrArg)
				}
			}
		}
	}
}

// TestReadDown wants ErrDown of a dead device, wherever the page is.
func TestReadDown(t *testing.T) {
	for _, b := range someBooks(t) {
		for no := range b.now {
			wantRead(t, "dead", down(b.s), no, "", down(b.s), api.ErrDown)
		}
	}
}

// TestReadDies wants what needs no deed to be read with none left, and ErrDown of all else, with the store as it was.
func TestReadDies(t *testing.T) {
	for _, b := range someBooks(t) {
		for no, data := range b.now {
			s := on(b.s, slab.Arm(b.s.Slab, 0))
			written := slices.ContainsFunc(s.Dirty, func(p api.Page) bool { return p.No == no })
			c, _, atHand := clock.Get(s.Clock, no)
			behind := s
			switch {
			case written:
				wantRead(t, "written", s, no, data, s, api.OK)
			case atHand:
				behind.Clock = c
				wantRead(t, "at hand", s, no, data, behind, api.OK)
			default:
				wantRead(t, "neither", s, no, "", down(s), api.ErrDown)
			}
		}
		s := on(b.s, slab.Arm(b.s.Slab, 1))
		s.Clock, s.Dirty = api.Clock{}, nil
		behind := read(s, 3, b.sure[3])
		behind.Slab.Left = 0
		wantRead(t, "one deed", s, 3, b.sure[3], behind, api.OK)
		wantRead(t, "no deed more", behind, 4, "", down(behind), api.ErrDown)
	}
}

// spoiled are sectors that aren't the frame of page 3 in the first sector of the log of epoch 1.
func spoiled() []string {
	right := pageSector(1, 0, 3, "ab")
	return []string{
		noughts(256), right[:255] + "\x00", "X" + right[1:], right[:100] + noughts(156), right[:255], right + "\x00",
		homeSector(3, "ab"), headSector(api.Head{Pages: 8, Log: 4, Epoch: 1}), commitSector(1, 0, 3), commitSector(1, 0, 0),
		pageSector(1, 0, 4, "ab"), pageSector(1, 1, 3, "ab"), pageSector(2, 0, 3, "ab"), pageSector(0, 0, 3, "ab"),
	}
}

// spoil is a device with another sector.
func spoil(d api.Slab, at int, sector string) api.Slab {
	d.Sure = slices.Clone(d.Sure)
	d.Sure[at] = sector
	return d
}

// TestReadSpoiledLog wants ErrForm where a page's frame is none, and the store as it was, behind one deed.
func TestReadSpoiledLog(t *testing.T) {
	b := format(t, 8, 4)
	b.saves("ab", 3)
	b.s.Clock = api.Clock{}
	for _, sector := range spoiled() {
		s := on(b.s, spoil(b.s.Slab, 10, sector))
		behind := s
		behind.Slab.Deeds++
		wantRead(t, "spoiled", s, 3, "", behind, api.ErrForm)
		wantRead(t, "another one", s, 4, noughts(200), read(s, 4, noughts(200)), api.OK)
	}
	s := on(b.s, spoil(b.s.Slab, 10, pageSector(1, 0, 3, "xy")))
	wantRead(t, "another text", s, 3, padded("xy"), read(s, 3, padded("xy")), api.OK)
}

// TestReadSpoiledHome wants noughts where a page's home hasn't its sector.
func TestReadSpoiledHome(t *testing.T) {
	b := format(t, 8, 4)
	b.saves("ab", 3)
	b.check()
	b.s.Clock = api.Clock{}
	wantRead(t, "at home", b.s, 3, padded("ab"), read(b.s, 3, padded("ab")), api.OK)
	right := homeSector(3, "ab")
	for _, sector := range []string{noughts(256), right[:255] + "\x00", "X" + right[1:], right[:255], homeSector(4, "ab"), homeSector(2, "ab"), pageSector(2, 0, 3, "ab"), pageSector(1, 0, 3, "ab")} {
		s := on(b.s, spoil(b.s.Slab, 5, sector))
		wantRead(t, "spoiled", s, 3, noughts(200), read(s, 3, noughts(200)), api.OK)
	}
}

// wantWrite wants the store behind a write.
func wantWrite(t *testing.T, what string, s api.Store, no int, data string, behind api.Store, wantErr api.Errno) {
	t.Helper()
	before := copied(s)
	got, err := Write(s, no, data)
	want(t, what, got, behind, err, wantErr)
	want(t, what+", handed in", s, before, api.OK, api.OK)
}

// TestWrite writes pages in any order, and texts of each length, and wants nothing else to change.
func TestWrite(t *testing.T) {
	for _, b := range someBooks(t) {
		dirty := map[int]string{}
		for _, p := range b.s.Dirty {
			dirty[p.No] = p.Data
		}
		for _, no := range []int{5, 0, 7, 5, 1, 6, 0, 7} {
			data := strings.Repeat("x", len(dirty)) + "of any"
			dirty[no] = padded(data)
			behind := b.s
			behind.Dirty = nil
			for _, no := range slices.Sorted(maps.Keys(dirty)) {
				behind.Dirty = append(behind.Dirty, api.Page{No: no, Data: dirty[no]})
			}
			wantWrite(t, "written", b.s, no, data, behind, api.OK)
			wantWrite(t, "no deed left", on(b.s, slab.Arm(b.s.Slab, 0)), no, data, on(behind, slab.Arm(b.s.Slab, 0)), api.OK)
			b.s = behind
		}
	}
	s := format(t, 8, 4).s
	for size := range 201 {
		data := strings.Repeat("\xff", size)
		behind := s
		behind.Dirty = []api.Page{{No: 7, Data: padded(data)}}
		wantWrite(t, "of each length", s, 7, data, behind, api.OK)
		wantRead(t, "of each length", behind, 7, padded(data), behind, api.OK)
	}
}

// TestWriteWrong wants ErrArg of pages that there aren't, and of texts that are too long, ahead of ErrDown, and nothing changed.
func TestWriteWrong(t *testing.T) {
	for _, b := range someBooks(t) {
		for _, s := range []api.Store{b.s, down(b.s), on(b.s, slab.Arm(b.s.Slab, 0))} {
			for _, size := range []int{201, 202, 256, 5000} {
				wantWrite(t, "too long", s, 3, noughts(size), s, api.ErrArg)
				wantWrite(t, "too long, and no such page", s, -1, noughts(size), s, api.ErrArg)
			}
			for _, no := range strange(s.Head.Pages) {
				if no < 0 || no >= s.Head.Pages {
					wantWrite(t, "no such page", s, no, "", s, api.ErrArg)
					wantWrite(t, "no such page", s, no, noughts(200), s, api.ErrArg)
				}
			}
		}
		for no := range b.now {
			wantWrite(t, "dead", down(b.s), no, "ab", down(b.s), api.ErrDown)
		}
	}
}

// TestAbort wants nothing written, and nothing else changed; without power, too.
func TestAbort(t *testing.T) {
	for _, b := range someBooks(t) {
		for _, s := range []api.Store{b.s, down(b.s), on(b.s, slab.Arm(b.s.Slab, 0))} {
			before := copied(s)
			behind := s
			behind.Dirty = nil
			want(t, "taken back", Abort(s), behind, api.OK, api.OK)
			want(t, "handed in", s, before, api.OK, api.OK)
		}
		b.abort()
		b.wantNow("taken back")
		b.write(3, "written again")
		b.wantNow("written again")
	}
}

// TestCheck wants each deed in its order, wherever the power goes.
func TestCheck(t *testing.T) {
	for _, b := range someBooks(t) {
		wantStages(t, "check", b.s, Check, stage{checkDeeds(b.s, b.sure), checked(b.s)})
		again := checked(b.s)
		again.Slab, _ = done(t, b.s.Slab, checkDeeds(b.s, b.sure))
		wantStages(t, "once more", again, Check, stage{checkDeeds(again, b.sure), checked(again)})
		b.check()
		b.wantNow("checked")
		b.abort()
		b.s.Clock = api.Clock{}
		b.wantNow("at home")
		got, err := Check(down(b.s))
		want(t, "dead", got, down(b.s), err, api.ErrDown)
	}
}

// TestCheckSpoiled wants ErrForm where a frame is none: pages ahead of it are put home, and not sure.
func TestCheckSpoiled(t *testing.T) {
	b := format(t, 8, 4)
	b.saves("ab", 1, 3, 5)
	b.write(6, "written")
	for i, no := range []int{1, 3, 5} {
		for _, sector := range []string{noughts(256), pageSector(1, i, 2, "ab"), pageSector(2, i, no, "ab"), commitSector(1, i, i)} {
			s := on(b.s, spoil(b.s.Slab, 10+i, sector))
			d, _ := done(t, s.Slab, append(checkDeeds(b.s, b.sure)[:2*i], get(10+i)))
			for name, call := range map[string]func(api.Store) (api.Store, api.Errno){"check": Check, "commit": Commit} {
				got, err := call(s)
				want(t, name, got, on(s, d), err, api.ErrForm)
			}
		}
	}
}

// TestLastEpoch wants ErrArg where no log may come any more, behind all else, and a log that still has room to be gone on with.
func TestLastEpoch(t *testing.T) {
	h := api.Head{Pages: 8, Log: 4, Epoch: math.MaxInt32 - 1}
	d := api.Slab{Sure: slices.Repeat([]string{noughts(256)}, 14), Left: -1}
	d.Sure[0] = headSector(h)
	b := book{t: t, s: api.Store{Slab: d}, sure: slices.Repeat([]string{noughts(200)}, 8)}
	b.open()
	b.saves("ab", 2)
	if b.s.Head.Epoch != math.MaxInt32 {
		t.Fatalf("%+v", b.s.Head)
	}
	deeds := checkDeeds(b.s, b.sure)
	behind, _ := done(t, b.s.Slab, deeds[:len(deeds)-2])
	got, err := Check(b.s)
	want(t, "no log more", got, on(b.s, behind), err, api.ErrArg)
	none, down, err := Open(b.s.Slab)
	want(t, "no store", none, api.Store{}, err, api.ErrArg)
	behind, _ = done(t, b.s.Slab, append([]deed{get(0), get(1), get(10), get(11), get(12)}, deeds[:len(deeds)-2]...))
	if !sameSlab(down, behind) {
		t.Errorf("another device: %+v", down)
	}
	b.saves("cd", 3)
	b.wantNow("room in the last log")
	b.write(4, "ef")
	full, err := Commit(b.s)
	want(t, "no room", on(full, api.Slab{}), on(b.s, api.Slab{}), err, api.ErrArg)
}

// TestCommit wants each deed in its order, wherever the power goes, where there is room in the log.
func TestCommit(t *testing.T) {
	b := format(t, 20, 12)
	for i, pages := range [][]int{{3}, {19, 0, 3}, {5, 4}, {0}} {
		b.writes(strings.Repeat("x", i+1), pages...)
		wantStages(t, "commit", b.s, Commit, stage{commitDeeds(b.s), committed(b.s)})
		b.commit()
		b.wantNow("committed")
		b.s.Clock = api.Clock{}
		b.wantNow("in the log")
	}
	if wanted := images(map[int]int{0: 9, 3: 3, 4: 6, 5: 7, 19: 4}); b.s.Tail != 11 || !slices.Equal(b.s.Fresh, wanted) {
		t.Errorf("%d sectors, %+v", b.s.Tail, b.s.Fresh)
	}
}

// TestCommitAtHand commits more pages than may be at hand: they come in order, into places that aren't held.
func TestCommitAtHand(t *testing.T) {
	b := format(t, 40, 30)
	b.saves("first", 0, 30)
	b.s.Clock, _ = clock.Pin(b.s.Clock, 30, true)
	b.writes("many", 2, 4, 6, 8, 10, 12, 14, 16, 18, 20, 22, 24)
	wantStages(t, "commit", b.s, Commit, stage{commitDeeds(b.s), committed(b.s)})
	b.commit()
	if clock.Find(b.s.Clock, 30) < 0 || clock.Find(b.s.Clock, 24) < 0 || clock.Find(b.s.Clock, 0) >= 0 {
		t.Errorf("%+v", b.s.Clock)
	}
	b.write(30, "held")
	b.commit()
	b.wantNow("held")
	if clock.Pins(b.s.Clock) != 1 {
		t.Errorf("%+v", b.s.Clock)
	}
}

// TestCommitNothing wants OK, and nothing changed, with no deed left, too; and ErrDown of a dead device ahead of it.
func TestCommitNothing(t *testing.T) {
	for _, b := range someBooks(t) {
		wantStages(t, "nothing written", Abort(b.s), Commit, stage{nil, Abort(b.s)})
		for _, s := range []api.Store{down(b.s), Abort(down(b.s))} {
			got, err := Commit(s)
			want(t, "dead", got, s, err, api.ErrDown)
		}
	}
}

// room is a store of 12 pages and a log of 8 of which so many sectors are used, with so many pages written.
func room(t *testing.T, used, pages int) book {
	t.Helper()
	b := format(t, 12, 8)
	switch {
	case used >= 4 && used%2 == 0:
		for at := 2; at < used; at += 2 {
			b.saves(strings.Repeat("x", at), at)
		}
		b.saves("last", 11)
	case used > 1:
		for no := range used - 1 {
			b.write(no, "first")
		}
		b.commit()
	}
	for no := range pages {
		b.write(no, "now")
	}
	if b.s.Tail != used || len(b.s.Dirty) != pages {
		t.Fatalf("%d sectors, %d pages", b.s.Tail, len(b.s.Dirty))
	}
	return b
}

// TestCommitRoom commits any number of pages into a log of which any number of sectors are used: with a Check ahead, where there is no room, and ErrLarge, where there never is.
func TestCommitRoom(t *testing.T) {
	for _, used := range []int{0, 2, 3, 4, 5, 6, 7, 8} {
		for pages := 1; pages <= 12; pages++ {
			b := room(t, used, pages)
			switch n := pages + 1; {
			case n > 8:
				for _, s := range []api.Store{b.s, on(b.s, slab.Arm(b.s.Slab, 0))} {
					got, err := Commit(s)
					want(t, "too many", got, s, err, api.ErrLarge)
				}
				got, err := Commit(down(b.s))
				want(t, "too many, dead", got, down(b.s), err, api.ErrDown)
				continue
			case used+n > 8:
				home := checked(b.s)
				wantStages(t, "a check ahead", b.s, Commit, stage{checkDeeds(b.s, b.sure), home}, stage{commitDeeds(home), committed(home)})
			default:
				wantStages(t, "room", b.s, Commit, stage{commitDeeds(b.s), committed(b.s)})
			}
			b.commit()
			b.wantNow("committed")
			b.open()
			b.wantNow("opened anew")
		}
	}
}

// TestEachCallInTurn goes on from store to store, and wants pages as they were written, whatever was done between.
func TestEachCallInTurn(t *testing.T) {
	for _, b := range someBooks(t) {
		if len(b.s.Dirty) < b.s.Head.Log {
			b.commit()
		}
		for i := range 3 {
			b.saves(strings.Repeat("x", i+1), i, i+1)
			b.wantNow("committed")
			b.writes("gone", i, 7)
			b.wantNow("written")
			b.abort()
			b.wantNow("taken back")
			b.check()
			b.write(6, strings.Repeat("y", i+1))
			b.check()
			b.wantNow("checked")
			b.commit()
			b.open()
			b.wantNow("opened anew")
		}
	}
}

// A logCase is sectors of a log, and which pages stand where in it, once it was opened.
type logCase struct {
	what    string
	sectors []string
	got     int
	places  map[int]int
}

// someLogs are logs of six sectors, of epoch 5, of nine pages.
func someLogs() []logCase {
	page := func(at, no int) string { return pageSector(5, at, no, strings.Repeat("p", at+1)) }
	commit := func(at, pages int) string { return commitSector(5, at, pages) }
	torn := page(1, 4)[:200] + noughts(56)
	return []logCase{
		{"nothing", nil, 1, nil},
		{"one page", []string{page(0, 3), commit(1, 1)}, 3, map[int]int{3: 0}},
		{"two pages", []string{page(0, 8), page(1, 0), commit(2, 2)}, 4, map[int]int{8: 0, 0: 1}},
		{"no commit", []string{page(0, 3)}, 2, nil},
		{"no commit, to the end", []string{page(0, 3), page(1, 4), page(2, 5), page(3, 6), page(4, 7), page(5, 8)}, 6, nil},
		{"no commit behind one", []string{page(0, 3), commit(1, 1), page(2, 3), page(3, 4)}, 5, map[int]int{3: 0}},
		{"two commits", []string{page(0, 3), commit(1, 1), page(2, 3), page(3, 1), commit(4, 2)}, 6, map[int]int{1: 3, 3: 2}},
		{"a full log", []string{page(0, 3), commit(1, 1), page(2, 3), page(3, 1), page(4, 2), commit(5, 3)}, 6, map[int]int{1: 3, 2: 4, 3: 2}},
		{"three commits", []string{page(0, 3), commit(1, 1), page(2, 3), commit(3, 1), page(4, 3), commit(5, 1)}, 6, map[int]int{3: 4}},
		{"one page twice", []string{page(0, 3), page(1, 3), page(2, 2), commit(3, 3)}, 5, map[int]int{2: 2, 3: 1}},
		{"a commit of nothing", []string{commit(0, 0)}, 2, nil},
		{"a commit of nothing ahead", []string{commit(0, 0), page(1, 3), commit(2, 1)}, 4, map[int]int{3: 1}},
		{"a commit of nothing behind", []string{page(0, 3), commit(1, 1), commit(2, 0), page(3, 4), commit(4, 1)}, 6, map[int]int{3: 0, 4: 3}},
		{"a commit of fewer", []string{page(0, 3), page(1, 4), commit(2, 1), commit(3, 2)}, 3, nil},
		{"a commit of more", []string{page(0, 3), commit(1, 2), page(2, 4), commit(3, 2)}, 2, nil},
		{"a commit of all", []string{page(0, 3), commit(1, 1), page(2, 4), commit(3, 2)}, 4, map[int]int{3: 0}},
		{"a commit of none of one", []string{page(0, 3), commit(1, 0), commit(2, 1)}, 2, nil},
		{"the last page", []string{page(0, 8), commit(1, 1)}, 3, map[int]int{8: 0}},
		{"no such page", []string{page(0, 9), commit(1, 1)}, 1, nil},
		{"no such page behind", []string{page(0, 3), commit(1, 1), page(2, 511), commit(3, 1)}, 3, map[int]int{3: 0}},
		{"an older log", []string{pageSector(4, 0, 3, "x"), commit(1, 1)}, 1, nil},
		{"a newer log", []string{pageSector(6, 0, 3, "x"), commit(1, 1)}, 1, nil},
		{"an older log's commit", []string{page(0, 3), commitSector(4, 1, 1)}, 2, nil},
		{"a newer log's commit", []string{page(0, 3), commitSector(6, 1, 1)}, 2, nil},
		{"an older log behind", []string{page(0, 3), commit(1, 1), pageSector(4, 2, 4, "x"), commitSector(4, 3, 1)}, 3, map[int]int{3: 0}},
		{"another place", []string{page(1, 3), commit(1, 1)}, 1, nil},
		{"another place's commit", []string{page(0, 3), commit(2, 1)}, 2, nil},
		{"torn", []string{page(0, 3), torn, commit(2, 2)}, 2, nil},
		{"torn behind a commit", []string{commit(0, 0), torn, commit(2, 1)}, 2, nil},
		{"noughts between", []string{page(0, 3), commit(1, 1), noughts(256), page(3, 4), commit(4, 1)}, 3, map[int]int{3: 0}},
		{"a commit torn", []string{page(0, 3), commit(1, 1), page(2, 4), commit(3, 1)[:255] + "x"}, 4, map[int]int{3: 0}},
		{"other kinds", []string{page(0, 3), homeSector(4, "x"), commit(2, 2)}, 2, nil},
		{"other kinds first", []string{headSector(api.Head{Pages: 9, Log: 6, Epoch: 5}), commit(1, 0)}, 1, nil},
	}
}

// device has a head of epoch 5, an older one beside it, a page at home, and a log.
func device(l logCase) api.Slab {
	d := api.Slab{Sure: slices.Repeat([]string{noughts(256)}, 17), Left: -1}
	d.Sure[0] = headSector(api.Head{Pages: 9, Log: 6, Epoch: 4})
	d.Sure[1] = headSector(api.Head{Pages: 9, Log: 6, Epoch: 5})
	d.Sure[5] = homeSector(3, "home")
	copy(d.Sure[11:], l.sectors)
	return d
}

// wantOpen opens on devices that do any number of deeds yet, and wants such deeds, and the store, or none.
func wantOpen(t *testing.T, what string, d api.Slab, deeds []deed, behind api.Store) {
	t.Helper()
	for left := -1; left <= len(deeds)+2; left++ {
		armed := slab.Arm(d, left)
		wanted, wantErr := done(t, armed, deeds)
		wantStore := api.Store{}
		if wantErr == api.OK {
			wantStore = on(behind, wanted)
		}
		before := copied(api.Store{Slab: armed})
		got, gotSlab, err := Open(armed)
		want(t, what, got, wantStore, err, wantErr)
		if !sameSlab(gotSlab, wanted) || !same(before, api.Store{Slab: armed}) {
			t.Fatalf("%s, %d deeds: another device", what, left)
		}
	}
}

// TestOpen opens any logs, and wants what was committed in them to be brought home, each deed in its order.
func TestOpen(t *testing.T) {
	for _, l := range someLogs() {
		d := device(l)
		deeds := []deed{get(0), get(1)}
		for i := range l.got {
			deeds = append(deeds, get(11+i))
		}
		pages := slices.Repeat([]string{noughts(200)}, 9)
		pages[3] = padded("home")
		for no, at := range l.places {
			pages[no] = padded(strings.Repeat("p", at+1))
		}
		s := api.Store{Head: api.Head{Pages: 9, Log: 6, Epoch: 5}, Fresh: images(l.places)}
		deeds = append(deeds, checkDeeds(s, pages)...)
		wantOpen(t, l.what, d, deeds, checked(s))
		b := book{t: t, s: api.Store{Slab: d}, sure: pages}
		b.open()
		b.wantNow(l.what)
		b.saves("new", 0, 3)
		b.open()
		b.wantNow(l.what + ", gone on with")
	}
}

// TestOpenSeesWrites opens a device with writes that aren't sure: they count as they stand, and are sure behind it.
func TestOpenSeesWrites(t *testing.T) {
	l := someLogs()[1]
	d := device(logCase{})
	for i, sector := range l.sectors {
		d.Late = append(d.Late, api.Late{At: 11 + i, Data: sector})
	}
	s := api.Store{Head: api.Head{Pages: 9, Log: 6, Epoch: 5}, Fresh: images(l.places)}
	pages := slices.Repeat([]string{padded("p")}, 9)
	wantOpen(t, "writes", d, append([]deed{get(0), get(1), get(11), get(12), get(13)}, checkDeeds(s, pages)...), checked(s))
}

// TestOpenWrong wants ErrForm of devices without head, or of another size, and ErrDown of those without power, ahead of it.
func TestOpenWrong(t *testing.T) {
	right := device(logCase{})
	short, long := right, right
	short.Sure = right.Sure[:16]
	long.Sure = append(slices.Clone(right.Sure), noughts(256))
	blank := spoil(spoil(right, 0, noughts(256)), 1, noughts(256))
	torn := spoil(spoil(right, 0, noughts(256)), 1, right.Sure[1][:255]+"x")
	small := api.Slab{Sure: []string{right.Sure[0], right.Sure[1]}, Left: -1}
	other := spoil(right, 0, headSector(api.Head{Pages: 9, Log: 7, Epoch: 6}))
	moved := spoil(right, 0, headSector(api.Head{Pages: 8, Log: 6, Epoch: 6}))
	for i, d := range []api.Slab{short, long, blank, torn, small, other, moved, {Left: -1, Sure: slices.Repeat([]string{noughts(256)}, 17)}} {
		for left := -1; left < 4; left++ {
			armed := slab.Arm(d, left)
			behind, wantErr := done(t, armed, []deed{get(0), get(1)})
			if wantErr == api.OK {
				wantErr = api.ErrForm
			}
			got, gotSlab, err := Open(armed)
			want(t, "no store", got, api.Store{}, err, wantErr)
			if !sameSlab(gotSlab, behind) {
				t.Errorf("%d, %d deeds: another device", i, left)
			}
		}
	}
	for _, d := range []api.Slab{right, short, blank} {
		d.Dead = true
		got, gotSlab, err := Open(d)
		want(t, "dead", got, api.Store{}, err, api.ErrDown)
		if !sameSlab(gotSlab, d) {
			t.Error("dead: another device")
		}
	}
	got, _, err := Open(api.Slab{})
	want(t, "a zero device", got, api.Store{}, err, api.ErrForm)
}

// P18.2

// TestExample is the chapter's.
func TestExample(t *testing.T) {
	b := format(t, 8, 4)
	b.saves("committed", 3)
	b.write(3, "again")
	b.open()
	b.wantNow("opened anew")
	wantRead(t, "as it was committed", b.s, 3, padded("committed"), read(b.s, 3, padded("committed")), api.OK)
}

// fates are which of so many writes stay: all, none, and some of them; each one torn, and none.
func fates(writes int) []api.Fate {
	var l []api.Fate
	for _, stay := range []uint64{0, 1, 2, 5, math.MaxUint64, math.MaxUint64 - 1, 0xaaaaaaaaaaaaaaaa, 1 << (max(writes, 1) - 1)} {
		l = append(l, api.Fate{Stay: stay, Torn: -1})
		for torn := range writes {
			for _, size := range []int{20, 255} {
				l = append(l, api.Fate{Stay: stay, Torn: torn, Bytes: size})
			}
		}
	}
	return l
}

// opened opens a device until there is power enough, and tells whether its pages are those ahead, or those behind.
func opened(t *testing.T, d api.Slab, ahead, behind []string) bool {
	t.Helper()
	s, e, err := Open(d)
	if err != api.OK || !sameSlab(s.Slab, e) || s.Tail != 0 || len(s.Fresh) > 0 || len(s.Dirty) > 0 {
		t.Fatalf("opened: error %d, %+v", err, s)
	}
	if reads(s, behind) {
		return true
	}
	if !reads(s, ahead) {
		t.Fatal("opened: neither what was committed, nor what was being committed")
	}
	return false
}

// wantKept lets the power go behind each deed of a call, and within opening as well, and wants all pages as they were ahead, or all as they are behind; behind alone, once the call was done.
func wantKept(t *testing.T, s api.Store, call func(api.Store) (api.Store, api.Errno), ahead, behind []string) {
	t.Helper()
	for left := 0; ; left++ {
		got, err := call(on(s, slab.Arm(s.Slab, left)))
		for i, f := range fates(len(got.Slab.Late)) {
			d := slab.Start(got.Slab, f)
			all := opened(t, d, ahead, behind)
			if err == api.OK && !all {
				t.Fatal("what was committed is gone")
			}
			if i%7 == 0 {
				wantOpenedAgain(t, d, ahead, behind, all)
			}
		}
		if err == api.OK {
			return
		}
		if err != api.ErrDown {
			t.Fatalf("%d deeds: error %d", left, err)
		}
	}
}

// wantOpenedAgain lets the power go behind each deed of opening, and wants the same pages in the end.
func wantOpenedAgain(t *testing.T, d api.Slab, ahead, behind []string, all bool) {
	t.Helper()
	for left := 0; ; left++ {
		none, e, err := Open(slab.Arm(d, left))
		if err == api.OK {
			return
		}
		want(t, "no power", none, api.Store{}, err, api.ErrDown)
		for i, f := range fates(len(e.Late)) {
			if (i+left)%5 == 0 && opened(t, slab.Start(e, f), ahead, behind) != all {
				t.Fatal("opened again: other pages")
			}
		}
	}
}

// TestKept lets the power go within commits and checks, with room in the log and without.
func TestKept(t *testing.T) {
	b := format(t, 8, 6)
	for i, pages := range [][]int{{3}, {5, 0, 3}, {1, 2}, {3, 7, 0, 5, 6}, {3}, {4}, {3, 4}} {
		b.writes(strings.Repeat("w", i+1), pages...)
		wantKept(t, b.s, Commit, b.sure, b.now)
		wantKept(t, b.s, Check, b.sure, b.sure)
		b.commit()
		wantKept(t, b.s, Check, b.sure, b.sure)
	}
}

// gone lets the power go for good, by any fate, and opens until there is power enough, which goes within opening too.
func (b *book) gone(r *rand.Rand, d api.Slab) {
	b.t.Helper()
	for {
		f := api.Fate{Stay: r.Uint64(), Torn: r.Intn(len(d.Late)+2) - 1, Bytes: r.Intn(257)}
		if r.Intn(4) == 0 {
			f.Stay = uint64(r.Intn(2)) * math.MaxUint64
		}
		d = slab.Start(d, f)
		if r.Intn(2) == 0 {
			d = slab.Arm(d, r.Intn(30))
		}
		s, e, err := Open(d)
		if err == api.OK {
			b.s = on(s, slab.Arm(e, -1))
			return
		}
		want(b.t, "opened", s, api.Store{}, err, api.ErrDown)
		d = e
	}
}

// step does one thing of any, with so few deeds left that the power may go.
func (b *book) step(r *rand.Rand) {
	b.t.Helper()
	if r.Intn(10) == 0 {
		b.gone(r, b.s.Slab)
		b.now = b.sure
		return
	}
	call, behind := Check, b.sure
	switch r.Intn(8) {
	case 0:
	case 1, 2:
		call, behind = Commit, b.now
	case 3:
		b.abort()
		return
	case 4:
		b.wantNow("now")
		return
	default:
		b.write(r.Intn(len(b.now)), strings.Repeat(string(rune('a'+r.Intn(26))), r.Intn(201)))
		return
	}
	armed := b.s
	if r.Intn(3) == 0 {
		armed = on(b.s, slab.Arm(b.s.Slab, r.Intn(2*len(b.s.Fresh)+len(b.s.Dirty)+8)))
	}
	s, err := call(armed)
	switch {
	case err == api.OK:
		b.s, b.sure = on(s, slab.Arm(s.Slab, -1)), behind
	case err == api.ErrLarge && len(b.s.Dirty) >= b.s.Head.Log:
		want(b.t, "too many", s, armed, err, err)
		b.abort()
	case err == api.ErrDown:
		b.gone(r, s.Slab)
		if reads(b.s, behind) {
			b.sure = behind
		}
		b.now = b.sure
		b.wantNow("behind a death")
	default:
		b.t.Fatalf("error %d", err)
	}
}

// TestKeptBehindDeaths does many things of any, with deaths of any.
func TestKeptBehindDeaths(t *testing.T) {
	r := rand.New(rand.NewSource(181))
	for range 60 {
		b := format(t, 8+r.Intn(20), 4+r.Intn(16))
		for range 400 {
			b.step(r)
		}
		b.wantNow("in the end")
	}
}

// P18.3

// TestRoom commits as many pages as a log has room for, whatever is in it, and one more.
func TestRoom(t *testing.T) {
	for log := 4; log <= 12; log++ {
		for first := range log {
			for second := 1; second <= log; second++ {
				b := format(t, 12, log)
				for no := range first {
					b.write(no, "first")
				}
				b.commit()
				for no := range second {
					b.write(11-no, "second")
				}
				if second == log {
					got, err := Commit(b.s)
					want(t, "one more", got, b.s, err, api.ErrLarge)
					b.abort()
				} else {
					b.commit()
				}
				b.wantNow("room")
				b.open()
				b.wantNow("opened anew")
			}
		}
	}
}

// TestRoomOfAll commits as many pages as there may ever be.
func TestRoomOfAll(t *testing.T) {
	b := format(t, 512, 512)
	for no := range 511 {
		b.write(no, strings.Repeat("a", no%200))
	}
	b.commit()
	b.write(3, "more")
	b.commit()
	b.wantNow("all but one")
	for no := range 512 {
		b.write(no, strings.Repeat("b", no%201))
	}
	got, err := Commit(b.s)
	want(t, "all", got, b.s, err, api.ErrLarge)
	b.open()
	b.wantNow("as they were")
}

// Rules that hold everywhere.

// roomy is a store whose lists have spare room, and whole all of it.
func roomy(s api.Store) api.Store {
	s = copied(s)
	s.Fresh = append(make([]api.Image, 0, len(s.Fresh)+5), s.Fresh...)
	s.Dirty = append(make([]api.Page, 0, len(s.Dirty)+5), s.Dirty...)
	s.Clock.Held = append(make([]api.Held, 0, len(s.Clock.Held)+5), s.Clock.Held...)
	s.Slab.Late = append(make([]api.Late, 0, len(s.Slab.Late)+5), s.Slab.Late...)
	s.Slab.Sure = append(make([]string, 0, len(s.Slab.Sure)+5), s.Slab.Sure...)
	return s
}

func whole(s api.Store) api.Store {
	s.Fresh, s.Dirty, s.Clock.Held = s.Fresh[:cap(s.Fresh)], s.Dirty[:cap(s.Dirty)], s.Clock.Held[:cap(s.Clock.Held)]
	s.Slab.Late, s.Slab.Sure = s.Slab.Late[:cap(s.Slab.Late)], s.Slab.Sure[:cap(s.Slab.Sure)]
	return s
}

// calls does each call, and answers the stores behind.
func calls(s api.Store) []api.Store {
	var l []api.Store
	for _, no := range []int{0, 3, 7, 5} {
		a, _, _ := Read(s, no)
		b, _ := Write(s, no, "other")
		l = append(l, a, b)
	}
	a, _ := Check(s)
	b, _ := Commit(s)
	c, _, _ := Open(s.Slab)
	return append(l, a, b, c, Abort(s))
}

// TestAlone wants stores that are handed in as they were, their spare room too, and what was answered as it was when another call goes on with it.
func TestAlone(t *testing.T) {
	for _, b := range someBooks(t) {
		for _, left := range []int{-1, 0, 1, 2, 5} {
			s := roomy(on(b.s, slab.Arm(b.s.Slab, left)))
			before := copied(whole(s))
			answers := calls(s)
			want(t, "handed in", whole(s), before, api.OK, api.OK)
			for _, a := range answers {
				after := copied(a)
				for _, more := range calls(a) {
					calls(more)
				}
				want(t, "answered", a, after, api.OK, api.OK)
			}
		}
	}
}

// TestTwoWays goes on with one store in two ways.
func TestTwoWays(t *testing.T) {
	b := format(t, 12, 12)
	b.saves("both", 0, 5)
	b.write(7, "both")
	one, two := b, b
	one.write(3, "one")
	two.write(9, "two")
	one.commit()
	two.commit()
	one.saves("one", 5)
	two.saves("two", 5)
	for _, way := range []*book{&b, &one, &two} {
		way.wantNow("a way")
		way.s.Clock = api.Clock{}
		way.wantNow("a way, nothing at hand")
		way.open()
		way.wantNow("a way, opened anew")
	}
}

// TestRaw calls with stores that no call makes, and wants an end, and no panic.
func TestRaw(t *testing.T) {
	numbers := []int{0, 1, -1, 3, 9, 512, 1 << 33, math.MinInt, math.MaxInt}
	good := format(t, 8, 4).s
	for _, n := range numbers {
		for _, m := range numbers {
			s := good
			s.Tail, s.Fresh = n, []api.Image{{Page: m, At: n}, {Page: n, At: m}, {}}
			s.Dirty = []api.Page{{No: m}, {No: n, Data: noughts(300)}, {No: 1, Data: "x"}}
			s.Clock = api.Clock{Held: slices.Repeat([]api.Held{{Page: api.Page{No: m}, Pins: n}}, 9), Hand: n}
			calls(s)
			s.Head = api.Head{Pages: n, Log: m, Epoch: m}
			calls(s)
			s.Slab = api.Slab{Sure: []string{"x", ""}, Late: []api.Late{{At: n, Data: "y"}}, Left: m}
			for _, behind := range calls(s) {
				calls(behind)
			}
			Read(s, n)
			Write(s, n, "x")
		}
	}
	calls(api.Store{})
}

func TestManyAtOnce(t *testing.T) {
	shared := format(t, 12, 6)
	shared.saves("shared", 0, 3)
	shared.write(5, "written")
	before := copied(shared.s)
	var all sync.WaitGroup
	for i := range 8 {
		all.Go(func() {
			s, pages := shared.s, slices.Clone(shared.now)
			for n := range 60 {
				no, data := (i+n)%12, strings.Repeat("x", i+n)
				pages[no] = padded(data)
				s, _ = Write(s, no, data)
				next, err := Commit(s)
				if err != api.OK || !reads(next, pages) {
					t.Errorf("goroutine %d, step %d: error %d", i, n, err)
				}
				s = next
			}
			s, _, err := Open(s.Slab)
			if err != api.OK || !reads(s, pages) {
				t.Errorf("goroutine %d, opened anew: error %d", i, err)
			}
		})
	}
	all.Wait()
	want(t, "handed in", shared.s, before, api.OK, api.OK)
}
