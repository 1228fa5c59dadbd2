package batch_test

import (
	"fmt"
	"iter"
	"math"
	"runtime"
	"slices"
	"testing"
	"weak"

	"landau/api"
	"landau/batch"
)

// made makes a batch of numbers.
func made(t testing.TB, size, room int) *batch.Batch[int] {
	t.Helper()
	b, e := batch.New[int](size, room)
	if b == nil || e != api.OK {
		t.Fatalf("P801: New(%d, %d) = %v, %v", size, room, b, e)
	}
	return b
}

// with makes a batch that has some numbers.
func with(t testing.TB, size, room int, xs ...int) *batch.Batch[int] {
	t.Helper()
	b := made(t, size, room)
	fill(t, b, xs...)
	return b
}

// fill adds numbers.
func fill(t testing.TB, b *batch.Batch[int], xs ...int) {
	t.Helper()
	for _, x := range xs {
		if e := b.Add(x); e != api.OK {
			t.Fatalf("P801: Add(%d), Len %d = %v", x, b.Len(), e)
		}
	}
}

// upTo answers 1, 2, .., n.
func upTo(n int) []int {
	var out []int
	for i := range n {
		out = append(out, i+1)
	}
	return out
}

// taken answers what a sequence goes over, at most most of it.
func taken[T any](seq iter.Seq[T], most int) []T {
	var out []T
	for x := range seq {
		out = append(out, x)
		if len(out) == most {
			break
		}
	}
	return out
}

// drained answers what Take takes, call by call, till nothing is left.
func drained[T any](b *batch.Batch[T]) [][]T {
	var out [][]T
	for {
		some := taken(b.Take(), 999)
		if len(some) == 0 {
			return out
		}
		out = append(out, some)
	}
}

// told tells all that a batch of numbers tells, its twins being asked where the asking changes it.
func told(b *batch.Batch[int]) string {
	x, ok := b.First()
	out := fmt.Sprint(b.Len(), " first ", x, " ", ok, " full ", b.Full(), " | ", drained(b.Twin()), " |")
	twin := b.Twin()
	for i := range api.MaxRoom + 1 {
		out += " " + twin.Add(100+i).Error()
	}
	return out
}

func TestNew(t *testing.T) {
	for room := 1; room <= api.MaxRoom; room++ {
		for size := 1; size <= room; size++ {
			b := made(t, size, room)
			x, ok := b.First()
			if b.Len() != 0 || b.Full() || x != 0 || ok || len(taken(b.Take(), 9)) != 0 {
				t.Errorf("P801: New(%d, %d): %s", size, room, told(b))
			}
		}
	}
}

func TestNewRefuses(t *testing.T) {
	edges := []int{math.MinInt, -64, -1, 0, 1, 2, 63, 64, 65, 66, 1 << 32, 1<<32 + 5, math.MaxInt}
	for _, size := range edges {
		for _, room := range edges {
			if 1 <= size && size <= room && room <= api.MaxRoom {
				continue
			}
			if b, e := batch.New[int](size, room); b != nil || e != api.ErrArg {
				t.Errorf("P801, P4: New(%d, %d) = %v, %v", size, room, b, e)
			}
		}
	}
}

// TestAddTillThereIsNoRoom fills each batch, and one more: at each step Full and First are asked, too.
func TestAddTillThereIsNoRoom(t *testing.T) {
	for room := 1; room <= api.MaxRoom; room++ {
		for size := 1; size <= room; size++ {
			b := made(t, size, room)
			for n := 1; n <= room; n++ {
				e := b.Add(n)
				x, ok := b.First()
				if e != api.OK || b.Len() != n || b.Full() != (n >= size) || x != 1 || !ok {
					t.Errorf("P801: New(%d, %d), the %d-th: %v; Len %d, Full %v, First %d, %v", size, room, n, e, b.Len(), b.Full(), x, ok)
				}
			}
			before := told(b)
			for range 2 {
				if e := b.Add(77); e != api.ErrFull || told(b) != before {
					t.Errorf("P801, P5: New(%d, %d), one more: %v; %s, was %s", size, room, e, told(b), before)
				}
			}
		}
	}
}

// TestAddInRoomThatIsFreeAgain: what was taken leaves room for as many more, which come behind the others.
func TestAddInRoomThatIsFreeAgain(t *testing.T) {
	b := with(t, 2, 3, 1, 2, 3)
	for x := 4; x < 300; x++ {
		if e := b.Add(x); e != api.ErrFull {
			t.Fatalf("P801: Add(%d) = %v", x, e)
		}
		if got := taken(b.Take(), 1); !slices.Equal(got, []int{x - 3}) {
			t.Fatalf("P801: %v, want %d", got, x-3)
		}
		fill(t, b, x)
	}
}

// TestAddTwice: the same value may come as often as it does.
func TestAddTwice(t *testing.T) {
	b := with(t, 2, 9, 5, 5, 0, 5)
	if got := fmt.Sprint(drained(b)); got != "[[5 5] [0 5]]" {
		t.Errorf("P801: %s", got)
	}
}

func TestFirst(t *testing.T) {
	b := made(t, 2, 5)
	for _, x := range []int{8, 0, 7} {
		fill(t, b, x)
		for range 3 {
			if y, ok := b.First(); y != 8 || !ok {
				t.Errorf("P801: First = %d, %v", y, ok)
			}
		}
	}
	for _, want := range []int{8, 0, 7} {
		if y, ok := b.First(); y != want || !ok {
			t.Errorf("P801: First = %d, %v, want %d", y, ok, want)
		}
		taken(b.Take(), 1)
	}
	if y, ok := b.First(); y != 0 || ok {
		t.Errorf("P801, P4: First = %d, %v", y, ok)
	}
}

// TestTake takes from each number of values with each size, and leaves at each place.
func TestTake(t *testing.T) {
	for _, room := range []int{1, 2, 3, 7, 8, 63, 64} {
		for size := 1; size <= room; size++ {
			for n := 0; n <= room; n += 1 + room/9 {
				for most := 1; most <= size+1; most += 1 + size/9 {
					b := with(t, size, room, upTo(n)...)
					goes := min(size, n, most)
					got := taken(b.Take(), most)
					if !slices.Equal(got, upTo(n)[:goes]) || b.Len() != n-goes || b.Full() != (n-goes >= size) {
						t.Fatalf("P801: New(%d, %d), %d are there, %d are asked: %v; %s", size, room, n, most, got, told(b))
					}
					if x, ok := b.First(); ok != (goes < n) || ok && x != goes+1 || !ok && x != 0 {
						t.Fatalf("P801: New(%d, %d), %d of %d taken: First = %d, %v", size, room, goes, n, x, ok)
					}
				}
			}
		}
	}
}

// TestTakeIsAskedNoMore: it stops behind size of them, behind the last one, and at the first no.
func TestTakeIsAskedNoMore(t *testing.T) {
	for _, c := range []struct{ size, there, yes, want int }{
		{3, 5, 9, 3}, {3, 3, 9, 3}, {3, 2, 9, 2}, {3, 0, 9, 0}, {1, 5, 9, 1}, {5, 5, 0, 1}, {5, 5, 1, 2}, {5, 5, 3, 4}, {5, 5, 4, 5},
	} {
		b := with(t, c.size, 5, upTo(c.there)...)
		asked := 0
		b.Take()(func(x int) bool {
			asked++
			return asked <= c.yes
		})
		if asked != c.want || b.Len() != c.there-c.want {
			t.Errorf("P801, P7: %v: asked %d times, Len %d", c, asked, b.Len())
		}
	}
}

// TestTakeTakesAsItIsAsked: what is told has been taken, and nothing that is not asked for.
func TestTakeTakesAsItIsAsked(t *testing.T) {
	b := with(t, 4, 6, upTo(6)...)
	before := told(b)
	seq := b.Take()
	if got := told(b); got != before {
		t.Errorf("P801: Take that is not ranged over takes: %s, was %s", got, before)
	}
	last := 0
	for x := range seq {
		last++
		y, ok := b.First()
		if x != last || b.Len() != 6-last || b.Full() != (b.Len() >= 4) || !ok || y != last+1 {
			t.Errorf("P801: the %d-th is %d: %s", last, x, told(b))
		}
	}
	if last != 4 {
		t.Errorf("P801: %d taken", last)
	}
}

// TestTakeAgain ranges over one sequence again and again: each time size of them go on, of what is there by then.
func TestTakeAgain(t *testing.T) {
	b := with(t, 3, 9, upTo(8)...)
	seq := b.Take()
	got := fmt.Sprint(taken(seq, 2), taken(seq, 9), taken(seq, 9), taken(seq, 9))
	if got != "[1 2] [3 4 5] [6 7 8] []" {
		t.Errorf("P801, P7: %s", got)
	}
	fill(t, b, 9, 10)
	if got := fmt.Sprint(taken(seq, 9), taken(seq, 9)); got != "[9 10] []" {
		t.Errorf("P801, P7: %s", got)
	}
}

// TestTakeWhileOthersCome: what comes while it is ranged over goes on too, but no more than size of them.
func TestTakeWhileOthersCome(t *testing.T) {
	for size := 1; size <= 4; size++ {
		b := with(t, size, 4, 1)
		last := 0
		for x := range b.Take() {
			if last++; x != last {
				t.Fatalf("P801: %d behind %d", x, last-1)
			}
			fill(t, b, x+1)
		}
		if y, ok := b.First(); last != size || b.Len() != 1 || y != size+1 || !ok {
			t.Errorf("P801: size %d: %d taken: %s", size, last, told(b))
		}
	}
}

func TestTakeBesideOthers(t *testing.T) {
	b := with(t, 5, 9, upTo(8)...)
	got := ""
	for x := range b.Take() {
		got += fmt.Sprint(x, " ")
		switch x {
		case 1: // another one takes some
			got += fmt.Sprint(taken(b.Take(), 2), " ")
		case 5: // it begins anew
			b.Clear()
			fill(t, b, 40, 41, 42, 43)
		}
	}
	if want := "1 [2 3] 4 5 40 41 "; got != want || b.Len() != 2 {
		t.Errorf("P801: %s, want %s; %s", got, want, told(b))
	}
}

// TestTakeOfWhatIsCleared ends, as there is nothing any more.
func TestTakeOfWhatIsCleared(t *testing.T) {
	b := with(t, 3, 3, 1, 2, 3)
	n := 0
	for range b.Take() {
		n++
		b.Clear()
	}
	if n != 1 || b.Len() != 0 {
		t.Errorf("P801: %d taken, Len %d", n, b.Len())
	}
}

// TestTakeThatIsThrownOutOf lets the one who asks panic: what it was told is taken, the rest stays.
func TestTakeThatIsThrownOutOf(t *testing.T) {
	b := with(t, 3, 3, 1, 2, 3)
	func() {
		defer func() { recover() }()
		for range b.Take() {
			panic("no more")
		}
	}()
	if got := fmt.Sprint(drained(b)); got != "[[2 3]]" {
		t.Errorf("P801: %s", got)
	}
}

func TestClear(t *testing.T) {
	for n := range 6 {
		b := with(t, 2, 5, upTo(n)...)
		for range 2 {
			b.Clear()
			if x, ok := b.First(); b.Len() != 0 || b.Full() || x != 0 || ok || len(taken(b.Take(), 9)) != 0 {
				t.Errorf("P801: Clear of %d: %s", n, told(b))
			}
			if got, want := told(b), told(made(t, 2, 5)); got != want {
				t.Errorf("P801: Clear of %d: %s, want %s", n, got, want)
			}
		}
	}
}

// TestTwin lets a batch and its twin go their own ways.
func TestTwin(t *testing.T) {
	ways := []func(b *batch.Batch[int]){
		func(b *batch.Batch[int]) { taken(b.Take(), 1) },
		func(b *batch.Batch[int]) { taken(b.Take(), 9) },
		func(b *batch.Batch[int]) { b.Clear() },
		func(b *batch.Batch[int]) { b.Add(50) },
		func(b *batch.Batch[int]) { b.Clear(); b.Add(60); b.Add(61) },
		func(b *batch.Batch[int]) { taken(b.Take(), 2); b.Add(70); b.Add(71); b.Add(72) },
	}
	for i, way := range ways {
		b := with(t, 2, 4, 1, 2, 3)
		before := told(b)
		twin := b.Twin()
		way(b)
		if got := told(twin); got != before {
			t.Errorf("P7: a twin behind way %d: %s, was %s", i, got, before)
		}
		other := twin.Twin()
		way(other)
		if got := told(twin); got != before {
			t.Errorf("P7: what has a twin behind way %d of it: %s, was %s", i, got, before)
		}
		if got, want := told(other), told(b); got != want {
			t.Errorf("P3: way %d: %s, want %s", i, got, want)
		}
	}
}

// TestTwinsTakeAlone: a sequence takes from the batch that it was made of.
func TestTwinsTakeAlone(t *testing.T) {
	b := with(t, 2, 4, 1, 2, 3)
	seq := b.Take()
	twin := b.Twin()
	for range seq {
		twin.Add(9)
	}
	if got := fmt.Sprint(drained(b), drained(twin)); got != "[[3]] [[1 2] [3 9]]" {
		t.Errorf("P7: %s", got)
	}
}

// TestOfAnything holds values of other kinds, those that cannot be held against each other, too.
func TestOfAnything(t *testing.T) {
	type draft struct {
		ticket int
		dep    []int
		done   func() int
	}
	d, e := batch.New[draft](2, 3)
	if x, ok := d.First(); e != api.OK || ok || x.ticket != 0 || x.dep != nil || x.done != nil {
		t.Errorf("P801, P4: %v, %v, %v", x, ok, e)
	}
	d.Add(draft{})
	d.Add(draft{7, []int{1, 2}, func() int { return 9 }})
	if got := taken(d.Take(), 9); len(got) != 2 || got[0].done != nil || got[1].ticket != 7 || !slices.Equal(got[1].dep, []int{1, 2}) || got[1].done() != 9 {
		t.Errorf("P801: %v", got)
	}
	a, e := batch.New[any](1, 2)
	a.Add(nil)
	a.Add([]int{3})
	if x, ok := a.First(); e != api.OK || x != nil || !ok || a.Len() != 2 {
		t.Errorf("P801: a nil is one, too: %v, %v, %v", x, ok, e)
	}
	if got := fmt.Sprint(drained(a)); got != "[[<nil>] [[3]]]" {
		t.Errorf("P801: %s", got)
	}
	s, e := batch.New[struct{}](64, 64)
	for range 64 {
		s.Add(struct{}{})
	}
	if n := len(taken(s.Take(), 99)); e != api.OK || n != 64 || s.Len() != 0 {
		t.Errorf("P801: %d, %v", n, e)
	}
}

// TestNothingIsChanged: what is handed in comes out as it is.
func TestNothingIsChanged(t *testing.T) {
	b, _ := batch.New[[]int](2, 3)
	whole := []int{1, 2, 66, 77}
	b.Add(whole[:2])
	b.Twin().Clear()
	b.First()
	got := taken(b.Take(), 9)
	if !slices.Equal(whole, []int{1, 2, 66, 77}) || len(got) != 1 || !slices.Equal(got[0], []int{1, 2}) {
		t.Errorf("P2: %v, %v", whole, got)
	}
}

// TestWhatIsGoneIsLetGoOf: nothing holds memory of what was taken or cleared.
func TestWhatIsGoneIsLetGoOf(t *testing.T) {
	b, _ := batch.New[*[4096]byte](2, 9)
	add := func() weak.Pointer[[4096]byte] {
		x := new([4096]byte)
		b.Add(x)
		return weak.Make(x)
	}
	gone := []weak.Pointer[[4096]byte]{add(), add(), add()}
	left := add()
	for range b.Take() {
	}
	taken(b.Take(), 1)
	runtime.GC()
	for i, x := range gone {
		if x.Value() != nil {
			t.Errorf("P2: what was taken %d-th is held", i)
		}
	}
	if left.Value() == nil {
		t.Error("P801: what is left is not held")
	}
	b.Clear()
	runtime.GC()
	if left.Value() != nil || b.Len() != 0 {
		t.Error("P2: what was cleared is held")
	}
	runtime.KeepAlive(b)
}

// TestBatchThatNoNewMade: one that was only declared has room for nothing.
func TestBatchThatNoNewMade(t *testing.T) {
	var b batch.Batch[int]
	for range 2 {
		b.Add(5)
		x, ok := b.Twin().First()
		if b.Full(); x != 0 || ok || b.Len() != 0 || len(taken(b.Take(), 9)) != 0 {
			t.Errorf("P1: First = %d, %v; Len %d", x, ok, b.Len())
		}
		b.Clear()
	}
}
