package head

import (
	"encoding/binary"
	"hash/crc32"
	"math"
	"math/rand"
	"slices"
	"strings"
	"sync"
	"testing"

	"mosaicist/api"
	"mosaicist/frame"
	"mosaicist/leaf"
	"mosaicist/slab"
	"mosaicist/tally"
)

// noughts is so many bytes of 0.
func noughts(n int) string { return strings.Repeat("\x00", n) }

// summed is s, and its sum by the library's own CRC-32.
func summed(s string) string {
	return string(binary.BigEndian.AppendUint32([]byte(s), crc32.ChecksumIEEE([]byte(s))))
}

// sectorOf is a sector as the chapter tells it, by another way, of any beginning and numbers.
func sectorOf(begin string, numbers ...uint32) string {
	b := []byte(begin)
	for _, n := range numbers {
		b = binary.BigEndian.AppendUint32(b, n)
	}
	return summed(string(b) + noughts(252-len(b)))
}

// sectorOfHead is a head's sector, by another way.
func sectorOfHead(h api.Head) string {
	return sectorOf("MOSAIC01", uint32(h.Pages), uint32(h.Log), uint32(h.Epoch))
}

// changed is s with one byte changed, by exclusive or.
func changed(s string, at int, by byte) string {
	b := []byte(s)
	b[at] ^= by
	return string(b)
}

// somePages, someLogs and someEpochs are numbers that a head may have, their ends too.
func somePages() []int { return []int{8, 9, 100, 255, 256, 257, 511, 512} }
func someLogs() []int  { return []int{4, 5, 7, 100, 255, 256, 257, 511, 512} }
func someEpochs() []int {
	return []int{1, 2, 3, 255, 256, 1<<16 - 1, 1 << 16, 0x01020304, 1<<24 - 1, 1 << 24, 1<<31 - 2, 1<<31 - 1}
}

// someHeads are heads that may be.
func someHeads() []api.Head {
	var l []api.Head
	for _, pages := range somePages() {
		for _, log := range someLogs() {
			for _, epoch := range someEpochs() {
				l = append(l, api.Head{Pages: pages, Log: log, Epoch: epoch})
			}
		}
	}
	return l
}

// beyond are numbers that have no room in four bytes; the last four of many are those of a head that may be.
func beyond() []int {
	return []int{-1, -8, -256, -512, math.MinInt32, math.MinInt32 - 1, -math.MaxUint32, -1 << 32, 8 - 1<<32, math.MinInt, math.MinInt + 8, math.MaxUint32 + 1, math.MaxUint32 + 2, 8 + 1<<32, 8 + 1<<40, 8 + 1<<62, math.MaxInt - 1, math.MaxInt}
}

// wrong are heads that may not be, by one number each, whose numbers have room in four bytes.
func wrong() []api.Head {
	var l []api.Head
	for _, n := range []int{0, 1, 2, 3, 513, 514, 768, 1024, 1 << 16, 8 + 1<<16, 8 + 1<<24, 1<<31 - 1, 1 << 31, 1<<31 + 8, math.MaxUint32} {
		l = append(l, api.Head{Pages: n, Log: 4, Epoch: 1}, api.Head{Pages: 8, Log: n, Epoch: 1})
	}
	// So many are enough for a log, and too few for pages.
	for n := 4; n < 8; n++ {
		l = append(l, api.Head{Pages: n, Log: 4, Epoch: 1})
	}
	for _, n := range []int{0, 1 << 31, 1<<31 + 1, math.MaxUint32 - 1, math.MaxUint32} {
		l = append(l, api.Head{Pages: 8, Log: 4, Epoch: n})
	}
	return append(l, api.Head{})
}

// wrongBeyond are heads that may not be, by one number each that has no room in four bytes.
func wrongBeyond() []api.Head {
	var l []api.Head
	for _, n := range beyond() {
		l = append(l, api.Head{Pages: n, Log: 4, Epoch: 1}, api.Head{Pages: 8, Log: n, Epoch: 1}, api.Head{Pages: 8, Log: 4, Epoch: n})
	}
	return l
}

// wantHead wants s to be the sector of that head.
func wantHead(t *testing.T, what, s string, want api.Head) {
	t.Helper()
	if got, is := Parse(s); !is || got != want {
		t.Fatalf("%s: %t, %+v, want %+v", what, is, got, want)
	}
}

// wantNone wants s to be no head's sector.
func wantNone(t *testing.T, what, s string) {
	t.Helper()
	if got, is := Parse(s); is || got != (api.Head{}) {
		t.Fatalf("%s: %t, %+v, want nothing", what, is, got)
	}
}

// sure is a device of such sectors, all of them sure, that did no deed yet.
func sure(sectors ...string) api.Slab { return api.Slab{Sure: sectors, Left: -1} }

// same compares devices; a list that holds nothing may be nil or empty.
func same(a, b api.Slab) bool {
	return slices.Equal(a.Sure, b.Sure) && slices.Equal(a.Late, b.Late) && a.Dead == b.Dead && a.Left == b.Left && a.Deeds == b.Deeds
}

// copied shares nothing with the device.
func copied(d api.Slab) api.Slab {
	d.Sure, d.Late = slices.Clone(d.Sure), slices.Clone(d.Late)
	return d
}

// wantNewest wants that head, and that error, and the device behind so many deeds, or dead.
func wantNewest(t *testing.T, what string, d api.Slab, want api.Head, err api.Errno, deeds int) {
	t.Helper()
	behind := copied(d)
	behind.Deeds += deeds
	behind.Dead = d.Dead || err == api.ErrDown
	if d.Left > 0 {
		behind.Left -= deeds
	}
	got, h, e := Newest(d)
	if h != want || e != err || !same(got, behind) {
		t.Fatalf("%s: %+v, error %d, want %+v, error %d; device dead %t, left %d, deeds %d", what, h, e, want, err, got.Dead, got.Left, got.Deeds)
	}
}

// put puts a head, and wants no error.
func put(t *testing.T, d api.Slab, h api.Head) api.Slab {
	t.Helper()
	d, err := Put(d, h)
	if err != api.OK {
		t.Fatalf("Put %+v: error %d", h, err)
	}
	return d
}

// P17.1

func TestRight(t *testing.T) {
	for _, h := range someHeads() {
		if !Right(h) {
			t.Errorf("may be: %+v", h)
		}
	}
	for _, h := range append(wrong(), wrongBeyond()...) {
		if Right(h) {
			t.Errorf("may not be: %+v", h)
		}
	}
	for n := -9; n < 600; n++ {
		if got := Right(api.Head{Pages: n, Log: 4, Epoch: 1}); got != (n >= 8 && n <= 512) {
			t.Errorf("%d pages: %t", n, got)
		}
		if got := Right(api.Head{Pages: 8, Log: n, Epoch: 1}); got != (n >= 4 && n <= 512) {
			t.Errorf("a log of %d: %t", n, got)
		}
		if got := Right(api.Head{Pages: 8, Log: 4, Epoch: n}); got != (n >= 1) {
			t.Errorf("epoch %d: %t", n, got)
		}
	}
}

// TestSectors wants each sector of a device to be a head's, or one page's, or one of the log.
func TestSectors(t *testing.T) {
	for _, pages := range somePages() {
		for _, log := range someLogs() {
			h := api.Head{Pages: pages, Log: log, Epoch: 1}
			if Size(h) != 2+pages+log {
				t.Fatalf("%d pages, a log of %d: %d sectors", pages, log, Size(h))
			}
			for no := range pages {
				if Home(no) != 2+no {
					t.Fatalf("page %d is at home in sector %d", no, Home(no))
				}
			}
			for i := range log {
				if Log(h, i) != 2+pages+i {
					t.Fatalf("%d pages: sector %d of the log is %d", pages, i, Log(h, i))
				}
			}
		}
	}
	h := api.Head{Pages: 8, Log: 4, Epoch: 1}
	if Size(h) != 14 || Home(0) != 2 || Home(7) != 9 || Log(h, 0) != 10 || Log(h, 3) != 13 {
		t.Errorf("8 pages, a log of 4: size %d, pages at %d to %d, log at %d to %d", Size(h), Home(0), Home(7), Log(h, 0), Log(h, 3))
	}
}

// TestSectorsOfAnyNumbers reckons with numbers that no device has.
func TestSectorsOfAnyNumbers(t *testing.T) {
	numbers := []int{0, 1, -1, -2, -3, 7, 513, 5000, -5000, 1 << 32, math.MinInt32, math.MaxInt32, math.MaxInt/2 - 2}
	for _, n := range numbers {
		if Home(n) != 2+n {
			t.Errorf("page %d: %d", n, Home(n))
		}
		for _, m := range numbers {
			h := api.Head{Pages: n, Log: m, Epoch: 9}
			if Size(h) != 2+n+m || Log(h, m) != 2+n+m || Log(api.Head{Pages: n}, m) != 2+n+m {
				t.Errorf("%d and %d: %d, %d", n, m, Size(h), Log(h, m))
			}
		}
	}
}

// TestPrintKnownHeads holds sectors against sums that were reckoned elsewhere.
func TestPrintKnownHeads(t *testing.T) {
	for _, c := range []struct {
		h            api.Head
		numbers, sum string
	}{
		{api.Head{Pages: 8, Log: 4, Epoch: 1}, "\x00\x00\x00\x08\x00\x00\x00\x04\x00\x00\x00\x01", "\x77\xe8\x15\x51"},
		{api.Head{Pages: 8, Log: 4, Epoch: 2}, "\x00\x00\x00\x08\x00\x00\x00\x04\x00\x00\x00\x02", "\xa4\x1f\xf5\xdf"},
		{api.Head{Pages: 512, Log: 512, Epoch: math.MaxInt32}, "\x00\x00\x02\x00\x00\x00\x02\x00\x7f\xff\xff\xff", "\x05\x6d\xf6\x5f"},
		{api.Head{Pages: 0x105, Log: 0x1a7, Epoch: 0x01020304}, "\x00\x00\x01\x05\x00\x00\x01\xa7\x01\x02\x03\x04", "\x09\x7f\x05\xf5"},
		{api.Head{Pages: 100, Log: 16, Epoch: 255}, "\x00\x00\x00\x64\x00\x00\x00\x10\x00\x00\x00\xff", "\xfe\x9a\x03\xd0"},
	} {
		want := "MOSAIC01" + c.numbers + noughts(232) + c.sum
		if got := Print(c.h); got != want {
			t.Errorf("%+v: %q, want %q", c.h, got, want)
		}
		wantHead(t, "known", want, c.h)
	}
}

func TestPrint(t *testing.T) {
	for _, h := range someHeads() {
		got := Print(h)
		if got != sectorOfHead(h) || len(got) != 256 || !tally.Whole(got) {
			t.Fatalf("%+v: %q of %d bytes", h, got, len(got))
		}
		wantHead(t, "there and back", got, h)
	}
}

// TestPrintWrong prints what may not be: by the same words, as far as there is room, and Parse takes none of it.
func TestPrintWrong(t *testing.T) {
	for _, h := range wrong() {
		if got := Print(h); got != sectorOfHead(h) {
			t.Errorf("%+v: %q", h, got)
		}
		wantNone(t, "may not be", Print(h))
	}
	for _, h := range wrongBeyond() {
		if got := Print(h); got != "" {
			t.Errorf("%+v, which has no room: %q", h, got)
		}
		wantNone(t, "without room", Print(h))
	}
}

// TestParse reads sectors that were put together by another way.
func TestParse(t *testing.T) {
	for _, h := range someHeads() {
		wantHead(t, "another way's", sectorOfHead(h), h)
	}
	for _, h := range wrong() {
		wantNone(t, "may not be", sectorOfHead(h))
	}
}

// TestParseOtherSizes cuts sectors short and makes them longer, with right sums as well.
func TestParseOtherSizes(t *testing.T) {
	s := Print(api.Head{Pages: 100, Log: 16, Epoch: 255})
	for size := range 256 {
		wantNone(t, "cut short", s[:size])
		wantNone(t, "cut at its beginning", s[256-size:])
	}
	for _, other := range []string{s + "\x00", s + noughts(4), s + s, "\x00" + s, s[1:] + s[:1], s[:255] + "\x00", noughts(256) + s} {
		wantNone(t, "moved, or longer", other)
	}
	for room := range 300 {
		if room != 232 {
			wantNone(t, "sealed in another size", summed(s[:20]+noughts(room)))
		}
	}
	for size := range 400 {
		wantNone(t, "noughts", noughts(size))
		wantNone(t, "noughts, sealed", summed(noughts(size)))
	}
}

// TestParseOtherKinds reads sectors of 256 bytes with right sums that are none of a head's.
func TestParseOtherKinds(t *testing.T) {
	for _, begin := range []string{
		"", "mosaic01", "MOSAIC00", "MOSAIC02", "MOSAIC10", "MOSAIC1", "MOSAIC0", "MOSAIC", "NOSAIC01", "01MOSAIC", "10CIASOM", "MOSAIC001", "MOSAIC01\x00", "\x00MOSAIC01", "MOSAIC\x00\x01", "LOGP", "LOGC", "PAGE",
	} {
		wantNone(t, "of another beginning", sectorOf(begin, 8, 4, 1))
	}
	for _, numbers := range [][]uint32{
		nil, {8}, {8, 4}, {8, 4, 1, 1}, {8, 4, 1, 0, 1}, {0, 8, 4, 1}, {0, 0, 0}, {8 << 24, 4, 1}, {8, 4 << 24, 1}, {8 << 24, 4 << 24, 1 << 24},
	} {
		wantNone(t, "of other numbers", sectorOf("MOSAIC01", numbers...))
	}
	wantHead(t, "of the same numbers", sectorOf("MOSAIC01", 8, 4, 1), api.Head{Pages: 8, Log: 4, Epoch: 1})
	for no := range 512 {
		wantNone(t, "a page's sector", leaf.Print(api.Page{No: no, Data: leaf.Blank()}))
		wantNone(t, "a commit's sector", frame.Print(api.Frame{Epoch: 1, Index: no, Commit: true, Page: no}))
	}
}

// TestParseOtherSums reads sectors whose sums are right of other bytes, or turned round.
func TestParseOtherSums(t *testing.T) {
	s := Print(api.Head{Pages: 100, Log: 16, Epoch: 255})
	turned := []byte(s)
	for i := range 4 {
		turned[252+i] = s[255-i]
	}
	sum := binary.BigEndian.AppendUint32(nil, ^crc32.ChecksumIEEE([]byte(s[:252])))
	for _, other := range []string{string(turned), s[:252] + string(sum), s[:252] + noughts(4), s[:252] + summed(s[:20])[20:], s[:252] + summed(s[8:20])[12:], s[:252] + summed(s[8:252])[244:]} {
		wantNone(t, "of another sum", other)
	}
}

// TestEachByte changes each byte in each way: the sum tells it. With the sum made right again, only numbers may be others.
func TestEachByte(t *testing.T) {
	h := api.Head{Pages: 0x105, Log: 0x1a7, Epoch: 0x01020304}
	s := Print(h)
	for at := range s {
		for by := 1; by < 256; by++ {
			other := changed(s, at, byte(by))
			wantNone(t, "changed", other)
			if at >= 252 {
				continue
			}
			g, may := h, true
			switch {
			case at >= 8 && at < 12:
				g.Pages ^= by << (8 * (11 - at))
				may = g.Pages >= 8 && g.Pages <= 512
			case at >= 12 && at < 16:
				g.Log ^= by << (8 * (15 - at))
				may = g.Log >= 4 && g.Log <= 512
			case at >= 16 && at < 20:
				g.Epoch ^= by << (8 * (19 - at))
				may = g.Epoch >= 1 && g.Epoch < 1<<31
			default:
				may = false
			}
			if may {
				wantHead(t, "resealed", summed(other[:252]), g)
			} else {
				wantNone(t, "resealed", summed(other[:252]))
			}
		}
	}
}

// TestAnyBytes reads what is no sector: nothing panics, and nothing is a head's.
func TestAnyBytes(t *testing.T) {
	r := rand.New(rand.NewSource(171))
	for range 20000 {
		b := make([]byte, r.Intn(300))
		r.Read(b)
		wantNone(t, "any bytes", string(b))
		wantNone(t, "any bytes behind a mark", ("MOSAIC01" + string(b) + noughts(256))[:256])
		wantNone(t, "any bytes behind numbers", (sectorOf("MOSAIC01", 8, 4, 1)[:20] + string(b) + "\x00m" + noughts(256))[:256])
	}
}

// P17.2

// TestNewest lays heads, and what is none, in both places.
func TestNewest(t *testing.T) {
	blank := noughts(256)
	one, two, three := api.Head{Pages: 8, Log: 4, Epoch: 1}, api.Head{Pages: 8, Log: 4, Epoch: 2}, api.Head{Pages: 8, Log: 4, Epoch: 3}
	low, high := api.Head{Pages: 9, Log: 5, Epoch: 255}, api.Head{Pages: 8, Log: 4, Epoch: 256}
	last, ahead := api.Head{Pages: 512, Log: 512, Epoch: math.MaxInt32}, api.Head{Pages: 8, Log: 512, Epoch: math.MaxInt32 - 1}
	torn := Print(three)[:20] + Print(one)[20:]
	for _, c := range []struct {
		what          string
		first, second string
		want          api.Head
		err           api.Errno
	}{
		{"noughts", blank, blank, api.Head{}, api.ErrForm},
		{"neither", torn, leaf.Print(api.Page{No: 0, Data: leaf.Blank()}), api.Head{}, api.ErrForm},
		{"one alone", blank, Print(one), one, api.OK},
		{"two alone", Print(two), blank, two, api.OK},
		{"beside a torn one", Print(two), torn, two, api.OK},
		{"beside a torn one", torn, Print(one), one, api.OK},
		{"beside one that may not be", Print(two), sectorOf("MOSAIC01", 7, 4, 3), two, api.OK},
		{"beside one that may not be", sectorOf("MOSAIC01", 8, 4, 1<<31), Print(one), one, api.OK},
		{"two counts over one", Print(two), Print(one), two, api.OK},
		{"three counts over two", Print(two), Print(three), three, api.OK},
		{"of higher bytes", Print(high), Print(low), high, api.OK},
		{"of more pages, but a lower one", Print(two), Print(low), low, api.OK},
		{"the last one", Print(ahead), Print(last), last, api.OK},
		{"the last one alone", "", Print(last), last, api.OK},
		{"in each other's places", Print(one), Print(two), two, api.OK},
		{"in each other's places", Print(three), Print(two), three, api.OK},
		{"twice", Print(two), Print(two), two, api.OK},
		{"of other sizes", Print(two)[:255], Print(one) + "\x00", api.Head{}, api.ErrForm},
	} {
		d := sure(c.first, c.second, Print(last), Print(last))
		wantNewest(t, c.what, d, c.want, c.err, 2)
		wantNewest(t, c.what, slab.Arm(d, 2), c.want, c.err, 2)
		wantNewest(t, c.what, slab.Arm(d, 9), c.want, c.err, 2)
	}
}

// TestNewestOfAll lays all heads beside a low and a high one.
func TestNewestOfAll(t *testing.T) {
	low, high := api.Head{Pages: 200, Log: 200, Epoch: 4}, api.Head{Pages: 200, Log: 200, Epoch: 1<<31 - 3}
	for _, h := range someHeads() {
		for _, other := range []api.Head{low, high} {
			want := h
			if other.Epoch > h.Epoch {
				want = other
			}
			wantNewest(t, "beside another", sure(Print(h), Print(other)), want, api.OK, 2)
			wantNewest(t, "beside another", sure(Print(other), Print(h)), want, api.OK, 2)
		}
	}
}

// TestNewestOfOneEpoch has two heads of which neither is the greater one: the first one is taken.
func TestNewestOfOneEpoch(t *testing.T) {
	h, g := api.Head{Pages: 8, Log: 4, Epoch: 2}, api.Head{Pages: 9, Log: 5, Epoch: 2}
	wantNewest(t, "of one epoch", sure(Print(h), Print(g)), h, api.OK, 2)
	wantNewest(t, "of one epoch", sure(Print(g), Print(h)), g, api.OK, 2)
}

// TestNewestWithoutPower wants ErrDown, whatever there is, and no head.
func TestNewestWithoutPower(t *testing.T) {
	one, two := Print(api.Head{Pages: 8, Log: 4, Epoch: 1}), Print(api.Head{Pages: 8, Log: 4, Epoch: 2})
	for _, sectors := range [][]string{{two, one}, {noughts(256), one}, {two, noughts(256)}, {noughts(256), noughts(256)}} {
		d := sure(sectors...)
		wantNewest(t, "no deed", slab.Arm(d, 0), api.Head{}, api.ErrDown, 0)
		wantNewest(t, "one deed", slab.Arm(d, 1), api.Head{}, api.ErrDown, 1)
		d.Dead, d.Deeds = true, 5
		wantNewest(t, "dead", d, api.Head{}, api.ErrDown, 0)
	}
	wantNewest(t, "one sector, dead", slab.Arm(sure(two), 0), api.Head{}, api.ErrDown, 0)
}

// TestNewestWithoutSectors has fewer than two sectors: one that isn't there has no head, and takes no deed.
func TestNewestWithoutSectors(t *testing.T) {
	h := api.Head{Pages: 8, Log: 4, Epoch: 1}
	wantNewest(t, "one", sure(Print(h)), h, api.OK, 1)
	wantNewest(t, "one, and one deed", slab.Arm(sure(Print(h)), 1), h, api.OK, 1)
	wantNewest(t, "one without head", sure(noughts(256)), api.Head{}, api.ErrForm, 1)
	wantNewest(t, "no sector", sure(), api.Head{}, api.ErrForm, 0)
	wantNewest(t, "a zero device", api.Slab{}, api.Head{}, api.ErrForm, 0)
	wantNewest(t, "no sector, and no power", api.Slab{Dead: true}, api.Head{}, api.ErrForm, 0)
}

// TestNewestSeesWrites wants what was written last to be seen, sure or not.
func TestNewestSeesWrites(t *testing.T) {
	h, g := api.Head{Pages: 8, Log: 4, Epoch: 2}, api.Head{Pages: 8, Log: 4, Epoch: 3}
	d := sure(Print(h), noughts(256), noughts(256))
	d.Late = []api.Late{{At: 1, Data: Print(g)}, {At: 2, Data: Print(h)}}
	wantNewest(t, "written", d, g, api.OK, 2)
	d.Late = append(d.Late, api.Late{At: 1, Data: noughts(256)})
	wantNewest(t, "written over", d, h, api.OK, 2)
}

// TestPut wants the head's sector in its place, all else as it was, and two deeds.
func TestPut(t *testing.T) {
	old := []string{strings.Repeat("a", 256), strings.Repeat("b", 256), strings.Repeat("c", 256)}
	for _, h := range someHeads() {
		for _, left := range []int{-1, 2, 7} {
			d := slab.Arm(sure(old...), left)
			want := copied(d)
			want.Sure[h.Epoch%2] = sectorOfHead(h)
			want.Deeds = 2
			if left > 0 {
				want.Left = left - 2
			}
			if got, err := Put(d, h); err != api.OK || !same(got, want) {
				t.Fatalf("%+v: error %d, %+v", h, err, got)
			}
		}
	}
}

// TestPutWrong wants ErrArg of a head that may not be, ahead of ErrDown, and the device as it was.
func TestPutWrong(t *testing.T) {
	dead := sure(noughts(256), noughts(256))
	dead.Dead = true
	late := sure(noughts(256), noughts(256))
	late.Late = []api.Late{{At: 1, Data: "x"}}
	for _, h := range append(wrong(), wrongBeyond()...) {
		for _, d := range []api.Slab{sure(noughts(256), noughts(256)), dead, late, slab.Arm(dead, 0), slab.Arm(late, 0), {}} {
			if got, err := Put(d, h); err != api.ErrArg || !same(got, d) {
				t.Fatalf("%+v: error %d, %+v", h, err, got)
			}
		}
	}
}

// TestPutWithoutSector wants ErrArg where the head's place isn't there.
func TestPutWithoutSector(t *testing.T) {
	odd, even := api.Head{Pages: 8, Log: 4, Epoch: 1}, api.Head{Pages: 8, Log: 4, Epoch: 2}
	for _, d := range []api.Slab{sure(noughts(256)), slab.Arm(sure(noughts(256)), 0), sure(), {}} {
		if got, err := Put(d, odd); err != api.ErrArg || !same(got, d) {
			t.Errorf("an odd one, %d sectors: error %d, %+v", len(d.Sure), err, got)
		}
	}
	for _, d := range []api.Slab{sure(), {}} {
		if got, err := Put(d, even); err != api.ErrArg || !same(got, d) {
			t.Errorf("an even one, no sector: error %d, %+v", err, got)
		}
	}
	wantNewest(t, "an even one, one sector", put(t, sure(noughts(256)), even), even, api.OK, 1)
}

// TestPutWithoutPower wants ErrDown, and the device as it is then: without the write, or with it, and not sure.
func TestPutWithoutPower(t *testing.T) {
	for _, epoch := range []int{1, 2, 3, 256, math.MaxInt32} {
		h := api.Head{Pages: 8, Log: 4, Epoch: epoch}
		d := sure(noughts(256), noughts(256))
		dead := d
		dead.Dead = true
		for _, s := range []api.Slab{slab.Arm(d, 0), dead, slab.Arm(dead, 4)} {
			want := s
			want.Dead = true
			if got, err := Put(s, h); err != api.ErrDown || !same(got, want) {
				t.Errorf("epoch %d, no deed: error %d, %+v", epoch, err, got)
			}
		}
		want := api.Slab{Sure: d.Sure, Late: []api.Late{{At: epoch % 2, Data: sectorOfHead(h)}}, Dead: true, Deeds: 1}
		if got, err := Put(slab.Arm(d, 1), h); err != api.ErrDown || !same(got, want) {
			t.Errorf("epoch %d, one deed: error %d, %+v", epoch, err, got)
		}
	}
}

// TestPutMakesAllSure wants writes that were there ahead to be sure, too, and those in its place to be written over.
func TestPutMakesAllSure(t *testing.T) {
	h := api.Head{Pages: 8, Log: 4, Epoch: 1}
	d := sure("a", "b", "c")
	d.Late = []api.Late{{At: 1, Data: "x"}, {At: 2, Data: "y"}, {At: 0, Data: "z"}}
	want := api.Slab{Sure: []string{"z", Print(h), "y"}, Left: -1, Deeds: 2}
	if got := put(t, d, h); !same(got, want) {
		t.Errorf("%+v", got)
	}
}

// TestHandedInStays wants no call to change what it was handed, spare room neither.
func TestHandedInStays(t *testing.T) {
	h, g := api.Head{Pages: 8, Log: 4, Epoch: 1}, api.Head{Pages: 8, Log: 4, Epoch: 2}
	d := sure(append(make([]string, 0, 9), Print(g), noughts(256), noughts(256))...)
	d.Late = append(make([]api.Late, 0, 9), api.Late{At: 2, Data: noughts(256)})
	roomy := d
	roomy.Sure, roomy.Late = d.Sure[:cap(d.Sure)], d.Late[:cap(d.Late)]
	before := copied(roomy)
	for _, left := range []int{-1, 0, 1, 2} {
		a := slab.Arm(d, left)
		Newest(a)
		Put(a, h)
		Put(a, g)
		if !same(roomy, before) {
			t.Fatalf("left %d: %+v", left, roomy)
		}
	}
}

// P17.3

// TestExample puts epoch 1, then 2, which counts.
func TestExample(t *testing.T) {
	one, two := api.Head{Pages: 8, Log: 4, Epoch: 1}, api.Head{Pages: 8, Log: 4, Epoch: 2}
	d, err := slab.New(Size(one))
	if err != api.OK {
		t.Fatalf("New: error %d", err)
	}
	wantNewest(t, "new", d, api.Head{}, api.ErrForm, 2)
	d = put(t, d, one)
	wantNewest(t, "one", d, one, api.OK, 2)
	d = put(t, d, two)
	wantNewest(t, "two", d, two, api.OK, 2)
	if d.Sure[0] != Print(two) || d.Sure[1] != Print(one) {
		t.Error("epoch 1 isn't beside epoch 2")
	}
}

// wantOneCounts wants, wherever the power goes within putting next, the head ahead of it, or next, if that is whole; and next for good, once it is sure.
func wantOneCounts(t *testing.T, d api.Slab, ahead, next api.Head) {
	t.Helper()
	for left := range 2 {
		down, err := Put(slab.Arm(d, left), next)
		if err != api.ErrDown {
			t.Fatalf("epoch %d, %d deeds: error %d", next.Epoch, left, err)
		}
		for size := -1; size <= 257; size++ {
			started := slab.Start(down, api.Fate{Torn: 0, Bytes: size})
			want := ahead
			if left == 1 && started.Sure[next.Epoch%2] == Print(next) {
				want = next
			}
			if size >= 256 && left == 1 && want != next {
				t.Fatalf("epoch %d isn't whole behind all its bytes", next.Epoch)
			}
			wantNewest(t, "torn", started, want, api.OK, 2)
			wantNewest(t, "none stays", slab.Start(down, api.Fate{Torn: 1, Bytes: size}), ahead, api.OK, 2)
		}
		want := ahead
		if left == 1 {
			want = next
		}
		wantNewest(t, "all stay", slab.Start(down, api.Fate{Stay: math.MaxUint64, Torn: -1}), want, api.OK, 2)
	}
	for _, left := range []int{-1, 2} {
		done := put(t, slab.Arm(d, left), next)
		for _, fate := range []api.Fate{{Torn: -1}, {Torn: 0}, {Torn: 0, Bytes: 19}, {Stay: math.MaxUint64, Torn: -1}} {
			wantNewest(t, "sure", slab.Start(done, fate), next, api.OK, 2)
		}
	}
}

// TestOneCounts goes on from head to head.
func TestOneCounts(t *testing.T) {
	for _, first := range []int{1, 2, 254, 65534, 1<<24 - 3, 1<<31 - 8} {
		h := api.Head{Pages: 8, Log: 4, Epoch: first}
		d, _ := slab.New(Size(h))
		d = slab.Start(put(t, d, h), api.Fate{Torn: -1})
		for range 7 {
			next := h
			next.Epoch++
			wantOneCounts(t, d, h, next)
			d, h = slab.Start(put(t, d, next), api.Fate{Torn: -1}), next
		}
	}
}

// TestOneCountsBehindDeaths tears head upon head in one place, and wants the one in the other place each time.
func TestOneCountsBehindDeaths(t *testing.T) {
	r := rand.New(rand.NewSource(172))
	for range 60 {
		h := api.Head{Pages: 8 + r.Intn(505), Log: 4 + r.Intn(509), Epoch: 1 + r.Intn(1<<31-60)}
		d, _ := slab.New(Size(h))
		d = put(t, d, h)
		for range 50 {
			next := h
			next.Epoch++
			left := r.Intn(4) - 1
			behind, err := Put(slab.Arm(d, left), next)
			want := h
			switch {
			case left < 0 || left > 1:
				want = next
				if err != api.OK {
					t.Fatalf("%d deeds: error %d", left, err)
				}
			case err != api.ErrDown:
				t.Fatalf("%d deeds: error %d", left, err)
			}
			fate := api.Fate{Stay: uint64(r.Intn(2)), Torn: r.Intn(3) - 1, Bytes: r.Intn(257)}
			behind = slab.Start(behind, fate)
			if behind.Sure[next.Epoch%2] == Print(next) {
				want = next
			}
			wantNewest(t, "behind a death", behind, want, api.OK, 2)
			d, h = behind, want
		}
	}
}

func TestManyAtOnce(t *testing.T) {
	shared, _ := slab.New(14)
	shared = put(t, shared, api.Head{Pages: 8, Log: 4, Epoch: 1})
	var all sync.WaitGroup
	for i := range 8 {
		all.Go(func() {
			d := shared
			for n := range 100 {
				h := api.Head{Pages: 8 + i, Log: 4 + n, Epoch: n + 2}
				behind, err := Put(d, h)
				_, got, e := Newest(behind)
				again, is := Parse(Print(h))
				if err != api.OK || e != api.OK || got != h || !is || again != h || !Right(h) || Size(h) != 14+i+n {
					t.Errorf("goroutine %d: another head %d", i, n)
				}
				d = behind
			}
		})
	}
	all.Wait()
	wantNewest(t, "shared", slab.Start(shared, api.Fate{Torn: -1}), api.Head{Pages: 8, Log: 4, Epoch: 1}, api.OK, 2)
}
