package plot

import (
	"math"
	"math/big"
	"math/rand"
	"slices"
	"strings"
	"sync"
	"testing"
)

// noughts is so many bytes of 0.
func noughts(n int) string { return strings.Repeat("\x00", n) }

// anyBytes is so many bytes of any.
func anyBytes(r *rand.Rand, n int) string {
	b := make([]byte, n)
	r.Read(b)
	return string(b)
}

// bitsOf is which of 512 pages are taken, by another way: all bytes of bits are one great number, the first byte its lowest.
func bitsOf(root string) [512]bool {
	b := []byte(root[:min(64, len(root))])
	slices.Reverse(b)
	all := new(big.Int).SetBytes(b)
	var list [512]bool
	for no := range list {
		list[no] = all.Bit(no) == 1
	}
	return list
}

// rootOf is page 0's bytes, 200 of them, where these pages are taken and the catalog begins there, by another way.
func rootOf(list [512]bool, catalog int) string {
	b := make([]byte, 200)
	for no, taken := range list {
		if taken {
			b[no/8] += []byte{1, 2, 4, 8, 16, 32, 64, 128}[no%8]
		}
	}
	b[64], b[65] = byte(catalog/256), byte(catalog%256)
	return string(b)
}

// freeOf is all pages of the first so many that aren't taken, by bitsOf.
func freeOf(root string, pages int) []int {
	var list []int
	for no, taken := range bitsOf(root) {
		if no < pages && !taken {
			list = append(list, no)
		}
	}
	return list
}

// someRoots are page 0's bytes, of its size and of others, ordinary and any.
func someRoots(r *rand.Rand) []string {
	l := []string{noughts(200), strings.Repeat("\xff", 200), "\x01\x02" + noughts(198), strings.Repeat("\xff", 64) + noughts(136), noughts(64) + strings.Repeat("\xff", 136), strings.Repeat("\x55", 200), strings.Repeat("\u00e4", 100)}
	for _, size := range []int{0, 1, 2, 3, 8, 31, 32, 62, 63, 64, 65, 66, 67, 100, 199, 200, 201, 256, 1000} {
		l = append(l, anyBytes(r, size), strings.Repeat("\xff", size), noughts(size))
	}
	return l
}

// strange are numbers of pages that there can't be.
func strange() []int {
	return []int{-1, -2, -7, -8, -9, -63, -64, -65, -511, -512, -513, math.MinInt32, math.MinInt32 - 1, -1 << 32, math.MinInt, math.MinInt + 1, math.MinInt + 8, 512, 513, 519, 520, 527, 528, 529, 600, 1599, 1600, 1 << 16, math.MaxInt32, math.MaxUint32, 1 << 32, 5 + 1<<32, 1 << 62, math.MaxInt - 1, math.MaxInt}
}

// wantPick wants the first n of these pages, or none and false, if there are fewer.
func wantPick(t *testing.T, root string, pages, n int, free []int) {
	t.Helper()
	got, is := Pick(root, pages, n)
	if n > len(free) {
		if is || len(got) != 0 {
			t.Fatalf("%d of %d pages, %d free: %v, %t, want none", n, pages, len(free), got, is)
		}
		return
	}
	if want := free[:max(n, 0)]; !is || !slices.Equal(got, want) {
		t.Fatalf("%d of %d pages: %v, %t, want %v", n, pages, got, is, want)
	}
}

// P14.1

// TestKnown is the chapter's example, byte by byte.
func TestKnown(t *testing.T) {
	root := Mark(Mark(noughts(200), 0, true), 9, true)
	if root != "\x01\x02"+noughts(198) {
		t.Errorf("pages 0 and 9: %q", root)
	}
	if got, is := Pick(root, 16, 3); !is || !slices.Equal(got, []int{1, 2, 3}) {
		t.Errorf("three of 16 pages: %v, %t", got, is)
	}
	if got, is := Pick(root, 16, 14); !is || !slices.Equal(got, []int{1, 2, 3, 4, 5, 6, 7, 8, 10, 11, 12, 13, 14, 15}) {
		t.Errorf("all of 16 pages: %v, %t", got, is)
	}
	last := Mark(noughts(200), 511, true)
	if last != noughts(63)+"\x80"+noughts(136) {
		t.Errorf("page 511: %q", last)
	}
	if got := SetRoot(last, 300); got != noughts(63)+"\x80\x01\x2c"+noughts(134) {
		t.Errorf("the catalog at 300: %q", got)
	}
}

func TestTaken(t *testing.T) {
	for _, root := range someRoots(rand.New(rand.NewSource(141))) {
		for no, want := range bitsOf(root) {
			if got := Taken(root, no); got != want {
				t.Fatalf("page %d of %q: %t", no, root, got)
			}
		}
	}
}

// TestTakenStrange asks for pages that there can't be, of roots whose every bit is set.
func TestTakenStrange(t *testing.T) {
	for _, size := range []int{0, 1, 64, 65, 66, 200, 1000} {
		root := strings.Repeat("\xff", size)
		for _, no := range strange() {
			if Taken(root, no) {
				t.Errorf("page %d of %d bytes is taken", no, size)
			}
		}
		for no := range 512 {
			if got := Taken(root, no); got != (no < 8*size) {
				t.Errorf("page %d of %d bytes: %t", no, size, got)
			}
		}
	}
}

// TestMark marks each page by itself, of a root that was put together by another way.
func TestMark(t *testing.T) {
	r := rand.New(rand.NewSource(142))
	for range 5 {
		var list [512]bool
		for no := range list {
			list[no] = r.Intn(2) == 0
		}
		catalog := r.Intn(512)
		root := rootOf(list, catalog)
		for no := range list {
			for _, taken := range []bool{true, false} {
				other := list
				other[no] = taken
				if got := Mark(root, no, taken); got != rootOf(other, catalog) {
					t.Fatalf("page %d, %t: %q", no, taken, got)
				}
			}
		}
	}
}

// TestMarkStrange wants root itself of pages that there can't be, or that it has no bits of.
func TestMarkStrange(t *testing.T) {
	for _, root := range someRoots(rand.New(rand.NewSource(143))) {
		pages := strange()
		for no := 8 * min(64, len(root)); no < 512; no++ {
			pages = append(pages, no)
		}
		for _, no := range pages {
			for _, taken := range []bool{true, false} {
				if got := Mark(root, no, taken); got != root {
					t.Fatalf("page %d, %t, of %q: %q", no, taken, root, got)
				}
			}
		}
	}
}

func TestFree(t *testing.T) {
	for _, root := range someRoots(rand.New(rand.NewSource(144))) {
		for pages := -3; pages < 520; pages++ {
			if got, want := Free(root, pages), len(freeOf(root, pages)); got != want {
				t.Fatalf("%d pages of %q: %d, want %d", pages, root, got, want)
			}
		}
		for _, pages := range strange() {
			want := 0
			if pages > 0 {
				want = len(freeOf(root, 512))
			}
			if got := Free(root, pages); got != want {
				t.Fatalf("%d pages of %q: %d, want %d", pages, root, got, want)
			}
		}
	}
	if all, none := Free(noughts(200), math.MaxInt), Free(strings.Repeat("\xff", 200), math.MaxInt); all != 512 || none != 0 {
		t.Errorf("of all pages: %d and %d", all, none)
	}
	if got := Free("", 40); got != 40 {
		t.Errorf("of no bytes: %d", got)
	}
}

func TestPick(t *testing.T) {
	for _, root := range someRoots(rand.New(rand.NewSource(145))) {
		for _, pages := range []int{math.MinInt, -1, 0, 1, 2, 7, 8, 9, 16, 63, 64, 65, 300, 510, 511, 512, 513, 528, 1600, math.MaxInt} {
			free := freeOf(root, pages)
			for _, n := range []int{math.MinInt, -2, -1, 0, 1, 2, 3, len(free) - 1, len(free), len(free) + 1, 511, 512, 513, math.MaxInt32, math.MaxInt - 1, math.MaxInt} {
				wantPick(t, root, pages, n, free)
			}
		}
	}
}

// TestPickEach picks each number of pages, of each number of pages.
func TestPickEach(t *testing.T) {
	root := rootOf(bitsOf("\x01\x82\x00\xff\x7f\xfe"), 300)
	for pages := -1; pages < 60; pages++ {
		free := freeOf(root, pages)
		for n := -2; n < 62; n++ {
			wantPick(t, root, pages, n, free)
		}
	}
}

// TestPickAlone changes a list that was picked, and wants the next one as it should be.
func TestPickAlone(t *testing.T) {
	root := "\x01\x02" + noughts(198)
	one, _ := Pick(root, 16, 3)
	two, _ := Pick(root, 16, 3)
	one[0], one[1], one[2] = 9, 9, 9
	three, _ := Pick(root, 16, 3)
	if want := []int{1, 2, 3}; !slices.Equal(two, want) || !slices.Equal(three, want) {
		t.Errorf("beside a changed list: %v and %v", two, three)
	}
}

func TestRoot(t *testing.T) {
	for _, ahead := range []string{noughts(64), strings.Repeat("\xff", 64)} {
		for _, rest := range []string{"", "\xff", noughts(134), strings.Repeat("\xff", 134)} {
			for no := range 1 << 16 {
				root := ahead + string([]byte{byte(no / 256), byte(no % 256)}) + rest
				if got := Root(root); got != no {
					t.Fatalf("%q: %d, want %d", root, got, no)
				}
			}
		}
	}
	for size := range 66 {
		if got := Root(strings.Repeat("\xff", size)); got != 0 {
			t.Errorf("of %d bytes: %d", size, got)
		}
	}
}

func TestSetRoot(t *testing.T) {
	for _, root := range someRoots(rand.New(rand.NewSource(146))) {
		for no := range 512 {
			want := root
			if len(root) >= 66 {
				want = root[:64] + string([]byte{byte(no / 256), byte(no % 256)}) + root[66:]
			}
			got := SetRoot(root, no)
			if got != want {
				t.Fatalf("%d of %q: %q", no, root, got)
			}
			if len(root) >= 66 && Root(got) != no {
				t.Fatalf("%d of %q is had again as %d", no, root, Root(got))
			}
		}
		for _, no := range strange() {
			if got := SetRoot(root, no); got != root {
				t.Fatalf("%d of %q: %q", no, root, got)
			}
		}
	}
}

// P14.2

// TestMarkItsOwn marks pages in turn, and wants all others, and where the catalog begins, as they were.
func TestMarkItsOwn(t *testing.T) {
	r := rand.New(rand.NewSource(147))
	for _, size := range []int{5, 64, 66, 200, 300} {
		root := anyBytes(r, size)
		list := bitsOf(root)
		catalog, rest := Root(root), root[min(64, size):]
		for range 3000 {
			no, taken := r.Intn(8*min(64, size)), r.Intn(2) == 0
			before := root
			root = Mark(root, no, taken)
			list[no] = taken
			if bitsOf(root) != list || len(root) != size || root[min(64, size):] != rest || Root(root) != catalog {
				t.Fatalf("page %d, %t, of %q: %q", no, taken, before, root)
			}
			if again := Mark(root, no, taken); again != root {
				t.Fatalf("page %d, %t, twice: %q and %q", no, taken, root, again)
			}
		}
	}
}

// TestMarkAndBack marks a page as it wasn't, and as it was again.
func TestMarkAndBack(t *testing.T) {
	for _, root := range someRoots(rand.New(rand.NewSource(148))) {
		for no := range 8 * min(64, len(root)) {
			was := Taken(root, no)
			other := Mark(root, no, !was)
			if Taken(other, no) == was || Mark(other, no, was) != root || Mark(root, no, was) != root {
				t.Fatalf("page %d of %q: %q", no, root, other)
			}
		}
	}
}

// TestPickAndMark takes pages as they are picked, until none is free.
func TestPickAndMark(t *testing.T) {
	root := SetRoot(Mark(noughts(200), 0, true), 511)
	for no := 1; no < 512; no++ {
		l, is := Pick(root, 512, 1)
		if !is || len(l) != 1 || l[0] != no || Free(root, 512) != 512-no {
			t.Fatalf("page %d: %v, %t, %d free", no, l, is, Free(root, 512))
		}
		root = Mark(root, no, true)
	}
	if l, is := Pick(root, 512, 1); is || len(l) != 0 || Free(root, 512) != 0 || Root(root) != 511 {
		t.Errorf("of a full root: %v, %t, %d free, the catalog at %d", l, is, Free(root, 512), Root(root))
	}
	if want := strings.Repeat("\xff", 64) + "\x01\xff" + noughts(134); root != want {
		t.Errorf("a full root: %q", root)
	}
}

// Any number of goroutines may call at once.

func TestManyAtOnce(t *testing.T) {
	root := "\x01\x02" + noughts(198)
	var all sync.WaitGroup
	for i := range 16 {
		all.Go(func() {
			mine := root
			for no := 16 + i; no < 512; no += 16 {
				mine = SetRoot(Mark(mine, no, true), no)
				if l, is := Pick(mine, 16, 3); !is || !slices.Equal(l, []int{1, 2, 3}) || !Taken(mine, no) || Root(mine) != no {
					t.Errorf("page %d: %v, %t", no, l, is)
				}
			}
			if got := Free(mine, 512); got != 512-2-31 {
				t.Errorf("of %d: %d free", i, got)
			}
		})
	}
	all.Wait()
	if root != "\x01\x02"+noughts(198) {
		t.Errorf("the root has become %q", root)
	}
}
