package clock

import (
	"math"
	"math/rand"
	"slices"
	"strconv"
	"strings"
	"sync"
	"testing"

	"mosaicist/api"
)

// page is a page's number, and bytes.
func page(no int, data string) api.Page { return api.Page{No: no, Data: data} }

// letter is the n-th page, of bytes of its own.
func letter(n int) api.Page { return page(n, "page "+strconv.Itoa(n)) }

// filled is what so many Puts make of nothing, pages 0 and on.
func filled(size int) api.Clock {
	var c api.Clock
	for n := range size {
		c = Put(c, letter(n))
	}
	return c
}

// held is c with a page held by that many more.
func held(t *testing.T, c api.Clock, no, times int) api.Clock {
	t.Helper()
	for range times {
		d, is := Pin(c, no, true)
		if !is {
			t.Fatalf("page %d isn't at hand", no)
		}
		c = d
	}
	return c
}

// asked is c with a page asked for.
func asked(t *testing.T, c api.Clock, no int) api.Clock {
	t.Helper()
	d, _, is := Get(c, no)
	if !is {
		t.Fatalf("page %d isn't at hand", no)
	}
	return d
}

// same tells whether two clocks are alike.
func same(a, b api.Clock) bool { return a.Hand == b.Hand && slices.Equal(a.Held, b.Held) }

// none tells whether c is a clock's zero value.
func none(c api.Clock) bool { return c.Hand == 0 && len(c.Held) == 0 }

// want wants a clock.
func want(t *testing.T, what string, got, wanted api.Clock) {
	t.Helper()
	if !same(got, wanted) {
		t.Fatalf("%s: %+v, want %+v", what, got, wanted)
	}
}

// wantMissing wants a page not to be at hand, by all that tell it.
func wantMissing(t *testing.T, c api.Clock, no int) {
	t.Helper()
	at := Find(c, no)
	d, s, is := Get(c, no)
	more, pinned := Pin(c, no, true)
	less, freed := Pin(c, no, false)
	if at != -1 || is || s != "" || !none(d) || pinned || !none(more) || freed || !none(less) {
		t.Fatalf("page %d of %+v: %d; %+v, %q, %t; %+v, %t; %+v, %t", no, c, at, d, s, is, more, pinned, less, freed)
	}
}

// strange are numbers of pages that no device has.
func strange() []int {
	return []int{-1, -2, -8, 512, 513, 1 << 16, 1 << 32, -1 << 32, math.MaxInt32, math.MinInt32, math.MaxInt, math.MinInt}
}

// clone is c in memory of its own, with spare room for so many pages, which is filled.
func clone(c api.Clock, spare int) api.Clock {
	filling := api.Held{Page: page(42, "spare"), Pins: 42}
	all := slices.Concat(c.Held, slices.Repeat([]api.Held{filling}, spare))
	c.Held = all[:len(c.Held)]
	return c
}

// whole is c with its spare room laid open.
func whole(c api.Clock, spare int) api.Clock {
	c.Held = slices.Clone(c.Held[:len(c.Held)+spare])
	return c
}

// cell is what is told of a place.
type cell struct {
	page  api.Page
	asked bool
	held  int
}

// ring is pages at hand by another way: the places, and the same in the order in which the hand comes to them.
type ring struct{ places, queue []*cell }

// find is the place's cell that has a page; nil, if none has.
func (r *ring) find(no int) *cell {
	for _, c := range r.places {
		if c.page.No == no {
			return c
		}
	}
	return nil
}

// put has a page at hand as the chapter tells it.
func (r *ring) put(p api.Page) {
	if c := r.find(p.No); c != nil {
		c.page, c.asked = p, true
		return
	}
	if len(r.places) < 8 {
		c := &cell{page: p, asked: true}
		r.places, r.queue = append(r.places, c), append(r.queue, c)
		return
	}
	for range 16 {
		c := r.queue[0]
		r.queue = append(slices.Clone(r.queue[1:]), c)
		if c.held == 0 && !c.asked {
			*c = cell{page: p, asked: true}
			return
		}
		if c.held == 0 {
			c.asked = false
		}
	}
}

// clock is the ring as a clock.
func (r *ring) clock() api.Clock {
	var c api.Clock
	for at, place := range r.places {
		c.Held = append(c.Held, api.Held{Page: place.page, Ref: place.asked, Pins: place.held})
		if place == r.queue[0] {
			c.Hand = at
		}
	}
	return c
}

// P15.1

// TestKnown is the chapter's example, place by place.
func TestKnown(t *testing.T) {
	c := Put(held(t, filled(8), 0, 1), letter(9))
	wanted := api.Clock{Hand: 2, Held: []api.Held{
		{Page: letter(0), Ref: true, Pins: 1},
		{Page: letter(9), Ref: true},
		{Page: letter(2)}, {Page: letter(3)}, {Page: letter(4)}, {Page: letter(5)}, {Page: letter(6)}, {Page: letter(7)},
	}}
	want(t, "the first held, a ninth", c, wanted)
	wantMissing(t, c, 1)
}

// TestNothing asks of no pages at all.
func TestNothing(t *testing.T) {
	for _, c := range []api.Clock{{}, {Held: []api.Held{}}} {
		for _, no := range append(strange(), 0, 1, 7) {
			wantMissing(t, c, no)
		}
		if Pins(c) != 0 || !Right(c) {
			t.Errorf("of nothing: %d, %t", Pins(c), Right(c))
		}
	}
}

// TestGrow wants a place more for each page, as long as there are fewer than 8, though others weren't asked for.
func TestGrow(t *testing.T) {
	var c, wanted api.Clock
	for n := range 8 {
		c = Put(c, letter(n))
		wanted.Held = append(wanted.Held, api.Held{Page: letter(n), Ref: true})
		want(t, "a place more", c, wanted)
		if !Right(c) || Pins(c) != 0 {
			t.Fatalf("%d pages: %t, %d", n, Right(c), Pins(c))
		}
		for no := range 10 {
			if no > n {
				wantMissing(t, c, no)
			} else if at := Find(c, no); at != no {
				t.Fatalf("page %d of %d: %d", no, n+1, at)
			}
		}
		less := clone(c, 0)
		less.Held[0].Ref = false
		if n < 7 && len(Put(less, letter(20)).Held) != n+2 {
			t.Fatalf("%d pages, the first wasn't asked for: no place more", n+1)
		}
	}
}

// TestStrangePages has pages of any numbers and bytes at hand.
func TestStrangePages(t *testing.T) {
	texts := []string{"", "\x00", "\xff\xfe", strings.Repeat("a", 200), strings.Repeat("b", 201), strings.Repeat("\u00e4", 5000)}
	var c api.Clock
	for i, no := range strange() {
		p := page(no, texts[i%len(texts)])
		c = Put(c, p)
		d, s, is := Get(c, no)
		if !is || s != p.Data || !same(c, d) || Find(c, no) != i%8 || !Right(c) {
			t.Fatalf("page %d: %q, %t, in place %d of %+v", no, s, is, Find(c, no), c)
		}
	}
}

// TestGet asks for each page of clocks of each size, and wants that one alone to be asked for.
func TestGet(t *testing.T) {
	for size := 1; size <= 8; size++ {
		c := held(t, filled(size), size-1, 2)
		for i := range c.Held {
			c.Held[i].Ref = false
		}
		for no := range size {
			wanted := clone(c, 0)
			wanted.Held[no].Ref = true
			for _, from := range []api.Clock{c, wanted} {
				got, s, is := Get(from, no)
				if !is || s != letter(no).Data {
					t.Fatalf("page %d: %q, %t", no, s, is)
				}
				want(t, "asked for", got, wanted)
			}
		}
		for _, no := range append(strange(), size) {
			wantMissing(t, c, no)
		}
	}
}

// TestGetMoved asks where the hand isn't at the first place, and wants it to stay.
func TestGetMoved(t *testing.T) {
	c := Put(filled(8), letter(8))
	for no := 1; no < 9; no++ {
		wanted := clone(c, 0)
		wanted.Held[no%8].Ref = true
		got, s, is := Get(c, no)
		if !is || s != letter(no).Data {
			t.Fatalf("page %d: %q, %t", no, s, is)
		}
		want(t, "asked for", got, wanted)
	}
	wantMissing(t, c, 0)
}

// TestPutAgain puts pages that are at hand, and wants their places, their holders and the hand as they were.
func TestPutAgain(t *testing.T) {
	for size := 1; size <= 8; size++ {
		for _, c := range []api.Clock{filled(size), Put(filled(size), letter(size))} {
			for at := range c.Held {
				for _, pins := range []int{0, 1, 3} {
					no := c.Held[at].Page.No
					d := held(t, c, no, pins)
					d.Held[at].Ref = false
					wanted := clone(d, 0)
					wanted.Held[at] = api.Held{Page: page(no, "other"), Ref: true, Pins: pins}
					got := Put(d, page(no, "other"))
					want(t, "put again", got, wanted)
					if _, s, is := Get(got, no); !is || s != "other" || Find(got, no) != at || Pins(got) != pins {
						t.Fatalf("page %d: %q, %t", no, s, is)
					}
				}
			}
		}
	}
}

// turned is what becomes of a full clock when one more page comes, by a rule of its own: the first one from the hand on that is neither held nor was asked for gives way; if there is none, the first one that isn't held.
func turned(c api.Clock, p api.Page) api.Clock {
	c = clone(c, 0)
	way := slices.Concat(walk(c.Hand, 8), walk(0, c.Hand))
	loose := slices.DeleteFunc(slices.Clone(way), func(at int) bool { return c.Held[at].Pins > 0 })
	if len(loose) == 0 {
		return c
	}
	gone := slices.IndexFunc(loose, func(at int) bool { return !c.Held[at].Ref })
	passed := loose[:max(gone, 0)]
	if gone < 0 {
		gone, passed = 0, loose
	}
	for _, at := range passed {
		c.Held[at].Ref = false
	}
	c.Held[loose[gone]] = api.Held{Page: p, Ref: true}
	c.Hand = (loose[gone] + 1) % 8
	return c
}

// walk is numbers from one to below another one.
func walk(from, to int) []int {
	var list []int
	for n := from; n < to; n++ {
		list = append(list, n)
	}
	return list
}

// TestTurn puts one more page into each full clock: whichever were asked for, whichever are held, wherever the hand is.
func TestTurn(t *testing.T) {
	c := filled(8)
	for marks := range 1 << 16 {
		for at := range c.Held {
			c.Held[at].Ref = marks>>at&1 == 1
			c.Held[at].Pins = marks >> (8 + at) & 1 * (at + 1)
		}
		c.Hand = marks / 251 % 8
		want(t, "one more page", Put(c, letter(8)), turned(c, letter(8)))
	}
}

// TestTurnEach sets the hand to each place, and looks for what gives way.
func TestTurnEach(t *testing.T) {
	c := filled(8)
	for hand := range 8 {
		c.Hand = hand
		all := clone(c, 0)
		for at := range all.Held {
			all.Held[at].Ref = false
		}
		all.Held[hand] = api.Held{Page: letter(8), Ref: true}
		all.Hand = (hand + 1) % 8
		want(t, "all asked for", Put(c, letter(8)), all)
		for loose := range 8 {
			d := clone(c, 0)
			for at := range d.Held {
				if at != loose {
					d.Held[at].Pins = 1
				}
			}
			wanted := clone(d, 0)
			wanted.Held[loose] = api.Held{Page: letter(8), Ref: true}
			wanted.Hand = (loose + 1) % 8
			want(t, "one isn't held", Put(d, letter(8)), wanted)
		}
	}
}

// TestAllHeld wants no page more, and nothing else changed, where all are held; and room again behind one Pin less.
func TestAllHeld(t *testing.T) {
	c := Put(filled(8), letter(8))
	for no := 1; no < 9; no++ {
		c = held(t, c, no, 1)
	}
	got := Put(c, letter(9))
	want(t, "all held", got, c)
	wantMissing(t, got, 9)
	again := Put(got, page(3, "new"))
	if _, s, is := Get(again, 3); !is || s != "new" || Pins(again) != 8 {
		t.Errorf("one that is held, put again: %q, %t, %d", s, is, Pins(again))
	}
	free, _ := Pin(got, 5, false)
	got = Put(free, letter(9))
	if at := Find(got, 9); at != 5 || got.Hand != 6 || Pins(got) != 7 {
		t.Errorf("one isn't held any more: place %d, hand %d, %d", at, got.Hand, Pins(got))
	}
	wantMissing(t, got, 5)
}

// TestPin holds a page by more and by fewer, 0 at least, and wants nothing else to change.
func TestPin(t *testing.T) {
	for size := 1; size <= 8; size++ {
		for no := range size {
			c := filled(size)
			c.Held[no].Ref = no%2 == 0
			for _, more := range []bool{false, true, true, true, false, true, false, false, false, false, true} {
				wanted := clone(c, 0)
				if more {
					wanted.Held[no].Pins++
				} else if wanted.Held[no].Pins > 0 {
					wanted.Held[no].Pins--
				}
				got, is := Pin(c, no, more)
				if !is || Pins(got) != wanted.Held[no].Pins {
					t.Fatalf("page %d, %t: %t, %d", no, more, is, Pins(got))
				}
				want(t, "held", got, wanted)
				c = got
			}
		}
		for _, no := range append(strange(), size) {
			wantMissing(t, filled(size), no)
		}
	}
}

// TestPins adds raw ones, too.
func TestPins(t *testing.T) {
	many := api.Clock{Hand: -3}
	for n := range 20 {
		many.Held = append(many.Held, api.Held{Pins: n})
	}
	below := api.Clock{Held: []api.Held{{Pins: -5}, {Pins: 3}, {Pins: math.MaxInt}, {Pins: math.MinInt}}}
	two := held(t, held(t, filled(8), 7, 2), 0, 3)
	for i, c := range []struct {
		c    api.Clock
		pins int
	}{{api.Clock{}, 0}, {filled(8), 0}, {two, 5}, {many, 190}, {below, -3}} {
		if got := Pins(c.c); got != c.pins {
			t.Errorf("%d: %d, want %d", i, got, c.pins)
		}
	}
}

// TestRight asks of raw clocks, at each edge.
func TestRight(t *testing.T) {
	for size := range 12 {
		var c api.Clock
		for n := range size {
			c.Held = append(c.Held, api.Held{Page: page(n-3, "same"), Ref: n%3 == 0, Pins: n % 2 * math.MaxInt})
		}
		for _, hand := range append(strange(), walk(0, 13)...) {
			c.Hand = hand
			if got := Right(c); got != (size <= 8 && (hand == 0 || hand > 0 && hand < size)) {
				t.Fatalf("%d places, hand %d: %t", size, hand, got)
			}
		}
	}
	for at := range 8 {
		for _, pins := range []int{-1, -2, math.MinInt} {
			c := filled(8)
			c.Held[at].Pins = pins
			if Right(c) {
				t.Errorf("place %d held by %d may be", at, pins)
			}
		}
		for other := range at {
			c := filled(8)
			c.Held[at].Page.No = other
			if Right(c) {
				t.Errorf("places %d and %d of one page may be", other, at)
			}
		}
	}
	if !Right(api.Clock{Held: []api.Held{{Page: page(-1, "")}, {Page: page(math.MinInt, "")}, {Page: page(math.MaxInt, strings.Repeat("a", 300))}}}) {
		t.Error("pages of any numbers and bytes may not be")
	}
}

// step does one thing of any to a clock, and to a ring.
func step(t *testing.T, r *rand.Rand, c api.Clock, by *ring, pages int) api.Clock {
	t.Helper()
	no := r.Intn(pages)
	place := by.find(no)
	switch r.Intn(8) {
	case 0, 1, 2:
		p := page(no, strconv.Itoa(r.Int()))
		by.put(p)
		return Put(c, p)
	case 3, 4, 5:
		if place == nil {
			wantMissing(t, c, no)
			return c
		}
		d, s, is := Get(c, no)
		if !is || s != place.page.Data {
			t.Fatalf("page %d of %+v: %q, %t, want %q", no, c, s, is, place.page.Data)
		}
		place.asked = true
		return d
	}
	if place == nil {
		wantMissing(t, c, no)
		return c
	}
	more := r.Intn(9) < 4
	d, is := Pin(c, no, more)
	if !is {
		t.Fatalf("page %d of %+v isn't at hand", no, c)
	}
	if more {
		place.held++
	} else {
		place.held = max(place.held-1, 0)
	}
	return d
}

// TestBesideRing does many things of any to clocks, beside a ring.
func TestBesideRing(t *testing.T) {
	r := rand.New(rand.NewSource(151))
	for _, pages := range []int{1, 5, 8, 9, 12, 40} {
		for range 20 {
			var c api.Clock
			by := &ring{}
			for range 500 {
				c = step(t, r, c, by, pages)
				want(t, "beside a ring", c, by.clock())
				if !Right(c) {
					t.Fatalf("%+v may not be", c)
				}
			}
		}
	}
}

// P15.2

// TestHeldStays holds some pages, and puts many others: those that are held stay, in their places, with their bytes, until none holds them.
func TestHeldStays(t *testing.T) {
	for some := range 1 << 8 {
		c := Put(filled(8), letter(8))
		for at := range 8 {
			if some>>at&1 == 1 {
				c = held(t, c, c.Held[at].Page.No, at+1)
			}
		}
		first := c
		for n := range 40 {
			c = Put(c, letter(100+n))
			for at, h := range first.Held {
				if h.Pins > 0 && c.Held[at] != h {
					t.Fatalf("held %b, page %d, %d others: %+v", some, h.Page.No, n+1, c.Held[at])
				}
			}
			if wanted := some < 255; (Find(c, 100+n) >= 0) != wanted {
				t.Fatalf("held %b, page %d is at hand: %t", some, 100+n, !wanted)
			}
		}
	}
}

// TestHeldByTwo wants a page to stay as long as one of two holds it, and to go when none does.
func TestHeldByTwo(t *testing.T) {
	for no := range 8 {
		c := held(t, filled(8), no, 2)
		for _, stays := range []bool{true, true, false} {
			for n := range 20 {
				c = Put(c, letter(100+n))
			}
			if at := Find(c, no); (at == no) != stays {
				t.Fatalf("page %d: place %d, held by %d", no, at, Pins(c))
			}
			if stays {
				c, _ = Pin(c, no, false)
			}
		}
	}
}

// Rules that hold everywhere.

// TestAlone wants clocks that are handed in as they were, their spare room too, and what was answered as it was when another call goes on with it.
func TestAlone(t *testing.T) {
	r := rand.New(rand.NewSource(152))
	c, by := api.Clock{}, &ring{}
	for range 2000 {
		in := clone(c, 3)
		before := whole(in, 3)
		out := step(t, r, in, by, 12)
		want(t, "handed in", whole(in, 3), before)
		after := clone(out, 0)
		for range 3 {
			no := r.Intn(12)
			Get(out, no)
			Pin(out, no, true)
			Pin(out, no, false)
			Put(out, page(no, "other"))
			Put(Put(out, page(20, "one")), page(21, "two"))
		}
		want(t, "answered", out, after)
		c = out
	}
}

// TestTwoWays goes on with one clock in two ways, where a list's spare room could be shared.
func TestTwoWays(t *testing.T) {
	for size := range 9 {
		c := filled(size)
		one, two := Put(c, page(100, "one")), Put(c, page(200, "two"))
		_, s, is := Get(one, 100)
		_, u, fine := Get(two, 200)
		if !is || s != "one" || !fine || u != "two" || Find(c, 100) != -1 || Find(c, 200) != -1 {
			t.Errorf("%d pages: %q, %t and %q, %t", size, s, is, u, fine)
		}
	}
}

// TestRaw calls with clocks that no call makes, and wants an end, and no panic.
func TestRaw(t *testing.T) {
	hands := append(strange(), 0, 1, 7, 8, 9, 19)
	for _, size := range []int{0, 1, 7, 8, 9, 20} {
		for _, pins := range []int{0, 1, -1, math.MaxInt, math.MinInt} {
			for _, hand := range hands {
				c := api.Clock{Held: slices.Repeat([]api.Held{{Page: letter(1), Ref: true, Pins: pins}}, size), Hand: hand}
				for _, no := range []int{1, 2, -1} {
					before := clone(c, 0)
					Find(c, no)
					Get(c, no)
					Put(c, letter(no))
					Pin(c, no, true)
					Pin(c, no, false)
					Pins(c)
					Right(c)
					want(t, "handed in", c, before)
				}
			}
		}
	}
}

func TestManyAtOnce(t *testing.T) {
	c := held(t, filled(8), 0, 1)
	before := clone(c, 0)
	var all sync.WaitGroup
	for i := range 16 {
		all.Go(func() {
			mine := c
			for n := range 200 {
				p := letter(100 + 200*i + n)
				mine = Put(mine, p)
				if _, s, is := Get(mine, p.No); !is || s != p.Data || Find(mine, 0) != 0 || Pins(mine) != 1 || !Right(mine) {
					t.Errorf("page %d: %q, %t", p.No, s, is)
				}
				Pin(c, n%8, true)
			}
		})
	}
	all.Wait()
	want(t, "handed in", c, before)
}
