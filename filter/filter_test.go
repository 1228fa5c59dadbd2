package filter_test

import (
	"fmt"
	"iter"
	"math"
	"slices"
	"strings"
	"testing"
	"unsafe"

	"landau/api"
	"landau/filter"
	"landau/rec"
	"landau/vec"
)

// record answers a record that may be put, another one for each seq.
func record(site, seq int) rec.Record {
	dep := make(vec.Vec, 8)
	dep[site], dep[(site+1)%8] = seq-1, seq
	return rec.Record{Site: site, Seq: seq, Dep: dep, Key: "k", Val: fmt.Sprint("v", seq)}
}

// made makes a filter.
func made(t testing.TB, site, room int) *filter.Filter {
	t.Helper()
	f, e := filter.New(site, room)
	if f == nil || e != api.OK {
		t.Fatalf("P701: New(%d, %d) = %v, %v", site, room, f, e)
	}
	return f
}

// from makes a filter that goes on with next.
func from(t testing.TB, site, room, next int) *filter.Filter {
	t.Helper()
	f := made(t, site, room)
	if e := f.Reset(next); e != api.OK {
		t.Fatalf("P701: Reset(%d) = %v", next, e)
	}
	return f
}

// fill puts records of a filter's site.
func fill(t testing.TB, f *filter.Filter, site int, seqs ...int) {
	t.Helper()
	for _, seq := range seqs {
		if e := f.Put(record(site, seq)); e != api.OK {
			t.Fatalf("P701: Put of %d:%d, Next %d = %v", site, seq, f.Next(), e)
		}
	}
}

// taken tells what a sequence goes over, at most most of it.
func taken(seq iter.Seq[rec.Record], most int) string {
	var out []string
	for r := range seq {
		out = append(out, rec.Text(r))
		if len(out) == most {
			break
		}
	}
	return strings.Join(out, "; ")
}

// texts tells what a sequence ought to go over.
func texts(site int, seqs ...int) string {
	var out []string
	for _, seq := range seqs {
		out = append(out, rec.Text(record(site, seq)))
	}
	return strings.Join(out, "; ")
}

// told tells all that a filter of a site tells, its twins being asked where the asking changes it.
func told(f *filter.Filter, site int) string {
	r, ok := f.First()
	out := fmt.Sprint(f.Next(), " ", f.Len(), " first ", ok, " ", rec.Text(r), " |")
	twin := f.Twin()
	for seq := f.Next() - 2; seq <= f.Next()+api.MaxRoom+1; seq++ {
		out += " " + twin.Put(rec.Record{Site: site, Seq: seq, Key: "k"}).Error()
	}
	twin = f.Twin()
	return out + " | " + taken(twin.Ready(), 99) + " | " + fmt.Sprint(twin.Len(), twin.Next())
}

// zero tells whether r is what stands beside a false.
func zero(r rec.Record) bool {
	return r.Site == 0 && r.Seq == 0 && len(r.Dep) == 0 && r.Key == "" && r.Val == ""
}

func TestNew(t *testing.T) {
	for site := range api.MaxSites {
		for room := 1; room <= api.MaxRoom; room++ {
			f := made(t, site, room)
			r, ok := f.First()
			if f.Next() != 1 || f.Len() != 0 || ok || !zero(r) || taken(f.Ready(), 9) != "" {
				t.Errorf("P701: New(%d, %d): %s", site, room, told(f, site))
			}
		}
	}
}

func TestNewRefuses(t *testing.T) {
	for _, c := range [][2]int{{-1, 5}, {8, 5}, {math.MinInt, 5}, {math.MaxInt, 5}, {0, 0}, {7, 65}, {3, -1}, {3, math.MinInt}, {3, math.MaxInt}, {-1, 0}, {8, 65}} {
		if f, e := filter.New(c[0], c[1]); f != nil || e != api.ErrArg {
			t.Errorf("P701, P4: New(%d, %d) = %v, %v", c[0], c[1], f, e)
		}
	}
}

// TestPutWindow puts the records about both edges of what a filter takes.
func TestPutWindow(t *testing.T) {
	for room := 1; room <= api.MaxRoom; room++ {
		for _, next := range []int{1, 2, 5, 64, 65, 1000, api.MaxSeq - 70, api.MaxSeq - 3, api.MaxSeq, api.MaxSeq + 1} {
			f := from(t, 3, room, next)
			for seq := next - 3; seq < next+room+3; seq++ {
				want := api.OK
				switch {
				case seq < 1 || seq > api.MaxSeq:
					want = api.ErrArg
				case seq < next:
					want = api.ErrTwice
				case seq >= next+room:
					want = api.ErrFull
				}
				one := f.Twin()
				if e := one.Put(rec.Record{Site: 3, Seq: seq, Key: "k"}); e != want || one.Next() != next || (one.Len() == 1) != (want == api.OK) {
					t.Errorf("P701: room %d, Next %d: Put of %d = %v, want %v; Next %d, Len %d", room, next, seq, e, want, one.Next(), one.Len())
				}
			}
		}
	}
}

func TestPutFar(t *testing.T) {
	f := made(t, 0, 64)
	for seq, want := range map[int]api.Errno{api.MaxSeq: api.ErrFull, api.MaxSeq + 1: api.ErrArg, math.MaxInt: api.ErrArg, 0: api.ErrArg, -1: api.ErrArg, math.MinInt: api.ErrArg} {
		if e := f.Put(rec.Record{Seq: seq, Key: "k"}); e != want || f.Len() != 0 {
			t.Errorf("P701: Put of %d = %v, want %v", seq, e, want)
		}
	}
}

// TestPutHoldsAllOfItsRoom fills a filter from behind: as many records are held as it has room for.
func TestPutHoldsAllOfItsRoom(t *testing.T) {
	for room := 1; room <= api.MaxRoom; room++ {
		for _, next := range []int{1, 7, 60, api.MaxSeq - room + 1} {
			f := from(t, 6, room, next)
			var seqs []int
			for seq := next + room - 1; seq >= next; seq-- {
				if r, ok := f.First(); ok || !zero(r) {
					t.Errorf("P701, P4: room %d, Next %d: First ahead of it = %v, %v", room, next, r, ok)
				}
				fill(t, f, 6, seq)
				seqs = append(seqs, seq)
				if f.Len() != len(seqs) || f.Next() != next {
					t.Errorf("P701: room %d, Next %d: Len %d, Next %d behind %v", room, next, f.Len(), f.Next(), seqs)
				}
			}
			slices.Reverse(seqs)
			if got := taken(f.Ready(), 99); got != texts(6, seqs...) || f.Next() != next+room || f.Len() != 0 {
				t.Errorf("P701: room %d, Next %d: %s, Next %d, Len %d", room, next, got, f.Next(), f.Len())
			}
		}
	}
}

// fault is something for which a Put is refused.
type fault struct {
	name string
	want api.Errno
	do   func(r *rec.Record)
}

// faults are in the order in which they are told.
func faults() []fault {
	return []fault{
		{"no site", api.ErrArg, func(r *rec.Record) { r.Site = 8 }},
		{"below all sites", api.ErrArg, func(r *rec.Record) { r.Site = -1 }},
		{"no seq", api.ErrArg, func(r *rec.Record) { r.Seq = 0 }},
		{"above all seqs", api.ErrArg, func(r *rec.Record) { r.Seq = api.MaxSeq + 1 }},
		{"dep's length", api.ErrLong, func(r *rec.Record) { r.Dep = make(vec.Vec, 9) }},
		{"dep's number", api.ErrLong, func(r *rec.Record) { r.Dep[7] = api.MaxSeq + 1 }},
		{"dep below 0", api.ErrArg, func(r *rec.Record) { r.Dep[7] = -1 }},
		{"order", api.ErrOrder, func(r *rec.Record) { r.Dep[4], r.Dep[5] = api.MaxSeq, api.MaxSeq }},
		{"key", api.ErrName, func(r *rec.Record) { r.Key = "K" }},
		{"no key", api.ErrName, func(r *rec.Record) { r.Key = "" }},
		{"val", api.ErrForm, func(r *rec.Record) { r.Val = "a b" }},
		{"val's length", api.ErrLong, func(r *rec.Record) { r.Val = strings.Repeat("x", 17) }},
		{"another site", api.ErrArg, func(r *rec.Record) { r.Site = 5 }},
		{"gone on", api.ErrTwice, func(r *rec.Record) { r.Seq = 9 }},
		{"gone on first", api.ErrTwice, func(r *rec.Record) { r.Seq = 1 }},
		{"held", api.ErrTwice, func(r *rec.Record) { r.Seq = 12 }},
		{"full", api.ErrFull, func(r *rec.Record) { r.Seq = 13 }},
		{"full far away", api.ErrFull, func(r *rec.Record) { r.Seq = api.MaxSeq }},
	}
}

// TestPutTellsTheFirst puts records with one fault, and with two: the first is told, and nothing changes.
func TestPutTellsTheFirst(t *testing.T) {
	f := from(t, 4, 3, 10)
	fill(t, f, 4, 12)
	before := told(f, 4)
	all := faults()
	for i, first := range all {
		for _, second := range all[i:] {
			r := rec.Record{Site: 4, Seq: 10, Dep: make(vec.Vec, 8), Key: "k"}
			second.do(&r)
			first.do(&r)
			if e := f.Put(r); e != first.want {
				t.Errorf("P701, P6: %s, %s: %v, want %v", first.name, second.name, e, first.want)
			}
			if got := told(f, 4); got != before {
				t.Fatalf("P5: %s, %s: %s, was %s", first.name, second.name, got, before)
			}
		}
	}
}

// TestPutChecksForAllSites puts what only some number of sites would take.
func TestPutChecksForAllSites(t *testing.T) {
	for site := range api.MaxSites {
		f := made(t, site, 1)
		dep := vec.Vec{9, 9, 9, 9, 9, 9, 9, 9}
		dep[site] = 0
		if e := f.Put(rec.Record{Site: site, Seq: 1, Dep: dep, Key: "12345678", Val: strings.Repeat("~", 16)}); e != api.OK {
			t.Errorf("P701: site %d: %v", site, e)
		}
		for other := range api.MaxSites {
			if e := f.Twin().Put(rec.Record{Site: other, Seq: 2, Key: "k"}); (e == api.ErrFull) != (other == site) || e != api.ErrFull && e != api.ErrArg {
				t.Errorf("P701: site %d: Put of site %d = %v", site, other, e)
			}
		}
	}
}

// TestPutTwiceKeepsTheFirst puts another record with a Seq that is held.
func TestPutTwiceKeepsTheFirst(t *testing.T) {
	f := made(t, 2, 4)
	fill(t, f, 2, 1, 2, 4)
	for _, seq := range []int{1, 2, 4} {
		for _, r := range []rec.Record{record(2, seq), {Site: 2, Seq: seq, Key: "other"}} {
			if e := f.Put(r); e != api.ErrTwice || f.Len() != 3 {
				t.Errorf("P701: Put of %v = %v, Len %d", r, e, f.Len())
			}
		}
	}
	fill(t, f, 2, 3)
	if got := taken(f.Ready(), 9); got != texts(2, 1, 2, 3, 4) {
		t.Errorf("P701: %s", got)
	}
	for seq := 1; seq <= 4; seq++ {
		if e := f.Put(record(2, seq)); e != api.ErrTwice {
			t.Errorf("P701, W3: %d goes on again: %v", seq, e)
		}
	}
}

func TestFirst(t *testing.T) {
	f := made(t, 1, 9)
	fill(t, f, 1, 2, 3)
	if r, ok := f.First(); ok || !zero(r) {
		t.Errorf("P701, P4: First = %v, %v", r, ok)
	}
	fill(t, f, 1, 1)
	for range 3 {
		if r, ok := f.First(); !ok || rec.Text(r) != texts(1, 1) || f.Len() != 3 || f.Next() != 1 {
			t.Errorf("P701: First = %v, %v; Len %d, Next %d", r, ok, f.Len(), f.Next())
		}
	}
	taken(f.Ready(), 2)
	if r, ok := f.First(); !ok || rec.Text(r) != texts(1, 3) {
		t.Errorf("P701: First = %v, %v", r, ok)
	}
	taken(f.Ready(), 2)
	if r, ok := f.First(); ok || !zero(r) {
		t.Errorf("P701, P4: First = %v, %v", r, ok)
	}
}

// TestReadyStopsAtAGap takes what stands together, and what stands behind it when the gap is closed.
func TestReadyStopsAtAGap(t *testing.T) {
	f := made(t, 7, 8)
	fill(t, f, 7, 8, 2, 1, 5, 4)
	if got := taken(f.Ready(), 99); got != texts(7, 1, 2) || f.Next() != 3 || f.Len() != 3 {
		t.Errorf("P701: %s, Next %d, Len %d", got, f.Next(), f.Len())
	}
	if got := taken(f.Ready(), 99); got != "" || f.Next() != 3 || f.Len() != 3 {
		t.Errorf("P701: %s, Next %d, Len %d", got, f.Next(), f.Len())
	}
	fill(t, f, 7, 3, 10)
	if got := taken(f.Ready(), 99); got != texts(7, 3, 4, 5) || f.Next() != 6 || f.Len() != 2 {
		t.Errorf("P701: %s, Next %d, Len %d", got, f.Next(), f.Len())
	}
}

// TestReadyTakesAsItIsAsked: what is told has been taken, and nothing that is not asked for.
func TestReadyTakesAsItIsAsked(t *testing.T) {
	for most := 1; most <= 5; most++ {
		f := made(t, 0, 5)
		fill(t, f, 0, 1, 2, 3, 4, 5)
		before := told(f, 0)
		seq := f.Ready()
		if got := told(f, 0); got != before {
			t.Fatalf("P701: Ready that is not ranged over takes: %s, was %s", got, before)
		}
		asked := 0
		seq(func(r rec.Record) bool {
			asked++
			_, there := f.First()
			if r.Seq != asked || f.Next() != asked+1 || f.Len() != 5-asked || there != (asked < 5) || f.Put(r) != api.ErrTwice {
				t.Errorf("P701: the %d-th is %v, Next %d, Len %d", asked, r, f.Next(), f.Len())
			}
			return asked < most
		})
		if asked != most || f.Next() != most+1 || f.Len() != 5-most {
			t.Errorf("P7: asked %d times, at most %d; Next %d, Len %d", asked, most, f.Next(), f.Len())
		}
		if got, want := taken(seq, 99), texts(0, []int{1, 2, 3, 4, 5}[most:]...); got != want {
			t.Errorf("P7: ranged over again: %s, want %s", got, want)
		}
	}
}

// TestReadyWhileThereIsOne: what comes while it is ranged over, or ahead of that, goes on too.
func TestReadyWhileThereIsOne(t *testing.T) {
	f := made(t, 0, 2)
	seq := f.Ready()
	fill(t, f, 0, 1)
	last := 0
	for r := range seq {
		if last++; r.Seq != last {
			t.Fatalf("P701: %d behind %d", r.Seq, last-1)
		}
		if last < 200 {
			fill(t, f, 0, last+1)
		}
	}
	if last != 200 || f.Next() != 201 || f.Len() != 0 {
		t.Errorf("P701: %d gone on, Next %d, Len %d", last, f.Next(), f.Len())
	}
}

func TestReadyBesideOthers(t *testing.T) {
	f := made(t, 0, 9)
	fill(t, f, 0, 1, 2, 3, 4, 5, 6)
	got := ""
	for r := range f.Ready() {
		got += fmt.Sprint(r.Seq, " ")
		switch r.Seq {
		case 1: // another one takes some
			got += "(" + taken(f.Ready(), 2) + ") "
		case 5: // it begins anew
			f.Reset(40)
			fill(t, f, 0, 41, 40)
		}
	}
	if want := "1 (" + texts(0, 2, 3) + ") 4 5 40 41 "; got != want || f.Next() != 42 || f.Len() != 0 {
		t.Errorf("P701: %s, want %s; Next %d, Len %d", got, want, f.Next(), f.Len())
	}
}

// TestReadyThatIsThrownOutOf lets the one who asks panic: what it was told is taken, the rest stays.
func TestReadyThatIsThrownOutOf(t *testing.T) {
	f := made(t, 0, 9)
	fill(t, f, 0, 1, 2, 3)
	func() {
		defer func() { recover() }()
		for range f.Ready() {
			panic("no more")
		}
	}()
	if got := taken(f.Ready(), 9); got != texts(0, 2, 3) {
		t.Errorf("P701: %s", got)
	}
}

func TestReadyAtTheEndOfAll(t *testing.T) {
	f := from(t, 5, 64, api.MaxSeq-1)
	fill(t, f, 5, api.MaxSeq, api.MaxSeq-1)
	if got := taken(f.Ready(), 9); got != texts(5, api.MaxSeq-1, api.MaxSeq) || f.Next() != api.MaxSeq+1 || f.Len() != 0 {
		t.Errorf("P701: %s, Next %d, Len %d", got, f.Next(), f.Len())
	}
	if r, ok := f.First(); ok || !zero(r) || taken(f.Ready(), 9) != "" || f.Put(record(5, api.MaxSeq)) != api.ErrTwice || f.Next() != api.MaxSeq+1 {
		t.Errorf("P701: behind all: First = %v, %v; Next %d", r, ok, f.Next())
	}
}

func TestReset(t *testing.T) {
	for _, next := range []int{1, 2, 3, 4, 5, 70, api.MaxSeq - 1, api.MaxSeq, api.MaxSeq + 1} {
		f := made(t, 1, 4)
		fill(t, f, 1, 1, 2, 4)
		taken(f.Ready(), 1)
		if e := f.Reset(next); e != api.OK {
			t.Errorf("P701: Reset(%d) = %v", next, e)
		}
		r, ok := f.First()
		if f.Next() != next || f.Len() != 0 || ok || !zero(r) || taken(f.Ready(), 9) != "" {
			t.Errorf("P701: Reset(%d): %s", next, told(f, 1))
		}
		if got, want := told(f, 1), told(from(t, 1, 4, next), 1); got != want {
			t.Errorf("P701: Reset(%d): %s, want %s", next, got, want)
		}
	}
}

func TestResetRefuses(t *testing.T) {
	f := made(t, 1, 4)
	fill(t, f, 1, 1, 2, 4)
	taken(f.Ready(), 1)
	before := told(f, 1)
	for _, next := range []int{0, -1, math.MinInt, api.MaxSeq + 2, math.MaxInt} {
		if e := f.Reset(next); e != api.ErrArg {
			t.Errorf("P701, P9: Reset(%d) = %v", next, e)
		}
		if got := told(f, 1); got != before {
			t.Errorf("P5: Reset(%d): %s, was %s", next, got, before)
		}
	}
}

// TestTwin lets a filter and its twin go their own ways.
func TestTwin(t *testing.T) {
	ways := []func(f *filter.Filter){
		func(f *filter.Filter) { taken(f.Ready(), 1) },
		func(f *filter.Filter) { taken(f.Ready(), 9) },
		func(f *filter.Filter) { f.Reset(7) },
		func(f *filter.Filter) { f.Put(record(3, 5)) },
	}
	for i, way := range ways {
		f := from(t, 3, 4, 2)
		fill(t, f, 3, 2, 3)
		before := told(f, 3)
		twin := f.Twin()
		if got := told(twin, 3); got != before {
			t.Errorf("P7: a twin: %s, want %s", got, before)
		}
		way(f)
		if got := told(twin, 3); got != before {
			t.Errorf("P7: a twin behind way %d: %s, was %s", i, got, before)
		}
		other := twin.Twin()
		way(other)
		if got := told(twin, 3); got != before {
			t.Errorf("P7: what has a twin behind way %d of it: %s, was %s", i, got, before)
		}
		if got, want := told(other, 3), told(f, 3); got != want {
			t.Errorf("P3: way %d: %s, want %s", i, got, want)
		}
	}
}

// scribble writes all over a record's list, its spare room too.
func scribble(r rec.Record) {
	room := r.Dep[:cap(r.Dep)]
	for i := range room {
		room[i] = 77
	}
}

func TestPutKeepsNothingOfWhatItIsGiven(t *testing.T) {
	f := made(t, 3, 9)
	whole := vec.Vec{5, 2, 77, 66}
	memory := []byte("keyvalue")
	text := unsafe.String(&memory[0], len(memory))
	if e := f.Put(rec.Record{Site: 3, Seq: 1, Dep: whole[:2], Key: text[:3], Val: text[3:]}); e != api.OK {
		t.Fatalf("P701: %v", e)
	}
	if !slices.Equal(whole, vec.Vec{5, 2, 77, 66}) {
		t.Errorf("P2: Put changes %v", whole)
	}
	whole[0], whole[1] = 9, 9
	for i := range memory {
		memory[i] = '?'
	}
	if r, ok := f.First(); !ok || rec.Text(r) != "3:1 [5 2] key=value" {
		t.Errorf("P2: Put keeps what it is given: %s", rec.Text(r))
	}
}

func TestAnswersAreNewMemory(t *testing.T) {
	f := made(t, 3, 9)
	fill(t, f, 3, 1, 2)
	twin := f.Twin()
	before := told(f, 3)
	for range 2 {
		r, _ := f.First()
		scribble(r)
		if got := told(f, 3); got != before {
			t.Errorf("P2: First hands out what is kept: %s, was %s", got, before)
		}
	}
	for r := range f.Ready() {
		scribble(r)
	}
	if got := told(twin, 3); got != before {
		t.Errorf("P2: Ready hands out what a twin keeps: %s, was %s", got, before)
	}
}

// TestFilterThatNoNewMade: one that was only declared has room for nothing.
func TestFilterThatNoNewMade(t *testing.T) {
	var f filter.Filter
	for next := range 3 {
		f.Reset(next)
		for seq := range 3 {
			f.Put(rec.Record{Seq: seq, Key: "k"})
		}
		r, ok := f.Twin().First()
		if ok || !zero(r) || taken(f.Ready(), 9) != "" || f.Len() != 0 {
			t.Errorf("P1: First = %v, %v; Len %d", r, ok, f.Len())
		}
	}
}
