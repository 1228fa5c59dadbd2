package maint_test

import (
	"fmt"
	"iter"
	"math"
	"strings"
	"testing"

	"landau/api"
	"landau/maint"
	"landau/rec"
	"landau/vec"
)

// record answers a record that may be put, another one for each n; the record of 0 is none.
// Their Seqs do not always rise: a log does not ask that of them.
func record(n int) rec.Record {
	if n == 0 {
		return rec.Record{}
	}
	return rec.Record{Site: n % 3, Seq: n*5%7 + 1, Dep: vec.Vec{0, 0, 0, n}, Key: "k", Val: fmt.Sprint(n)}
}

// put writes the line of record(n) at pos.
func put(pos, n int) string {
	return fmt.Sprintf("p %d %s", pos, rec.Text(record(n)))
}

// made makes a log.
func made(t testing.TB, stripes, room int) *maint.Log {
	t.Helper()
	l, e := maint.New(stripes, room)
	if l == nil || e != api.OK {
		t.Fatalf("P601: New(%d, %d) = %v, %v", stripes, room, l, e)
	}
	return l
}

// fill puts record(from) to record(to) at the next positions.
func fill(t testing.TB, l *maint.Log, from, to int) {
	t.Helper()
	for n := from; n <= to; n++ {
		if e := l.Put(l.Next(), record(n)); e != api.OK {
			t.Fatalf("P601: Put of %d = %v", n, e)
		}
	}
}

// sync makes all last.
func sync(l *maint.Log) {
	for k := range api.MaxStripes {
		l.Sync(k)
	}
}

// cleared trims a log, with the vector of all below pos.
func cleared(t testing.TB, l *maint.Log, pos int) {
	t.Helper()
	if e := l.Trim(pos, below(l, pos)); e != api.OK {
		t.Fatalf("P601: Trim(%d) = %v", pos, e)
	}
}

// below tells the vector of what is below pos.
func below(l *maint.Log, pos int) vec.Vec {
	_, v := l.Trimmed()
	for at, r := range l.All(0) {
		if at < pos {
			v = vec.With(v, r.Site, r.Seq)
		}
	}
	return v
}

// resized ends a log's epoch.
func resized(t testing.TB, l *maint.Log, n int) {
	t.Helper()
	if e := l.Resize(n); e != api.OK {
		t.Fatalf("P601: Resize(%d) = %v", n, e)
	}
}

// again lets a log fall, and recovers it.
func again(t testing.TB, l *maint.Log, keep ...int) {
	t.Helper()
	l.Crash(keep)
	if e := l.Recover(); e != api.OK {
		t.Fatalf("P602: Recover behind Crash(%v) = %v", keep, e)
	}
}

// seen tells what a sequence goes over.
func seen(seq iter.Seq2[int, rec.Record]) string {
	out := ""
	for pos, r := range seq {
		out += fmt.Sprint(" ", pos, "=", rec.Text(r))
	}
	return out
}

// values tells the positions below the head, with their records' values.
func values(l *maint.Log) string {
	var out []string
	for pos, r := range l.All(0) {
		out = append(out, fmt.Sprint(pos, "=", r.Val))
	}
	return strings.Join(out, " ")
}

// brief tells a log's numbers.
func brief(l *maint.Log) string {
	trim, gone := l.Trimmed()
	return fmt.Sprint(l.Down(), " ", l.Head(), "/", l.Next(), " ", trim, vec.Text(gone), " ", vec.Text(l.Vec()), " ", l.Epoch(), ":", l.Stripes())
}

// lines tells the lines of a disk, and how many of them wait; disk 8 is the log's own.
func lines(l *maint.Log, k int) string {
	var out []string
	d := l.Disks()[k]
	for _, line := range d.Lines() {
		out = append(out, line)
	}
	return fmt.Sprintf("%q %d", out, d.Waits())
}

// told tells all that a log tells, and its disks' lines.
func told(l *maint.Log) string {
	out := brief(l) + " |" + seen(l.All(0)) + " |"
	for pos := -1; pos < 12; pos++ {
		r, e := l.Get(pos)
		n := 0
		fmt.Sscan(r.Val, &n)
		if !rec.Same(r, record(n)) {
			out += rec.Text(r)
		}
		out += fmt.Sprint(" ", n, e)
	}
	for k := range l.Disks() {
		out += " " + lines(l, k)
	}
	return out
}

func TestNew(t *testing.T) {
	for stripes := 1; stripes <= api.MaxStripes; stripes++ {
		l := made(t, stripes, 500)
		if got := brief(l); got != fmt.Sprint("false 0/0 0[] [] 1:", stripes) || seen(l.All(0)) != "" {
			t.Errorf("P601: New(%d, 500): %s", stripes, got)
		}
		for k := range 9 {
			if got := lines(l, k); got != "[] 0" {
				t.Errorf("P601: New(%d, 500), disk %d: %s", stripes, k, got)
			}
		}
	}
}

func TestNewRefuses(t *testing.T) {
	for _, c := range [][2]int{{0, 99}, {9, 99}, {-1, 99}, {math.MinInt, 99}, {math.MaxInt, 99}, {1, 0}, {8, -1}, {3, 1<<20 + 1}, {3, math.MaxInt}, {3, math.MinInt}, {0, 0}} {
		if l, e := maint.New(c[0], c[1]); l != nil || e != api.ErrArg {
			t.Errorf("P601, P4: New(%d, %d) = %v, %v", c[0], c[1], l, e)
		}
	}
}

func TestEachDiskHasItsRoom(t *testing.T) {
	for _, room := range []int{1, 2, 77, 1 << 20} {
		l := made(t, 2, room)
		for k, d := range l.Disks() {
			if e := d.Write(strings.Repeat("x", room)); e != api.ErrFull {
				t.Errorf("P601: disk %d of room %d takes more: %v", k, room, e)
			}
			if e := d.Write(strings.Repeat("x", room-1)); e != api.OK {
				t.Errorf("P601: disk %d of room %d: %v", k, room, e)
			}
		}
	}
}

func TestPutDealsOut(t *testing.T) {
	for stripes := 1; stripes <= api.MaxStripes; stripes++ {
		l := made(t, stripes, 999)
		var want [8][]string
		for pos := range 19 {
			if l.Next() != pos || l.Head() != 0 {
				t.Errorf("P601: Head %d, Next %d ahead of Put at %d", l.Head(), l.Next(), pos)
			}
			if e := l.Put(pos, record(pos+1)); e != api.OK {
				t.Errorf("P601: Put at %d = %v", pos, e)
			}
			want[pos%stripes] = append(want[pos%stripes], put(pos, pos+1))
			for k := range 8 {
				if got := lines(l, k); got != fmt.Sprintf("%q %d", want[k], len(want[k])) {
					t.Errorf("P601: %d stripes, stripe %d: %s, want %q", stripes, k, got, want[k])
				}
			}
		}
		if got := lines(l, 8); got != "[] 0" {
			t.Errorf("P601: Put writes on the own disk: %s", got)
		}
	}
}

func TestPutRefuses(t *testing.T) {
	bad := record(9)
	bad.Key = "K"
	long := record(9)
	long.Val = strings.Repeat("v", 17)
	order := rec.Record{Seq: 1, Dep: vec.Vec{1}, Key: "k"}
	down := made(t, 2, 99)
	down.Crash(nil)
	whole := made(t, 2, len(put(0, 1))+1)
	fill(t, whole, 1, 2)
	trimmed := made(t, 2, 999)
	fill(t, trimmed, 1, 3)
	sync(trimmed)
	cleared(t, trimmed, 3)
	sealed := made(t, 1, 5)
	sealed.Resize(2)
	sealed.Recover()
	for _, c := range []struct {
		name string
		l    *maint.Log
		pos  int
		r    rec.Record
		want api.Errno
	}{
		{"down", down, 0, record(1), api.ErrDown},
		{"down", down, -1, bad, api.ErrDown},
		{"new", made(t, 2, 99), 1, record(1), api.ErrArg},
		{"new", made(t, 2, 99), -1, record(1), api.ErrArg},
		{"new", made(t, 2, 99), math.MinInt, bad, api.ErrArg},
		{"new", made(t, 2, 99), math.MaxInt, bad, api.ErrArg},
		{"new", made(t, 2, 99), 0, bad, api.ErrName},
		{"new", made(t, 2, 99), 0, long, api.ErrLong},
		{"new", made(t, 2, 99), 0, order, api.ErrOrder},
		{"new", made(t, 2, 99), 0, rec.Record{}, api.ErrArg},
		{"new", made(t, 2, 99), 0, rec.Record{Site: 8, Seq: 1, Key: "k"}, api.ErrArg},
		{"new", made(t, 2, 1), 0, record(1), api.ErrFull},
		{"new", made(t, 2, 1), 0, bad, api.ErrName},
		{"full", whole, 2, record(3), api.ErrFull},
		{"full", whole, 1, record(3), api.ErrArg},
		{"full", whole, 3, record(3), api.ErrArg},
		{"full", whole, 2, bad, api.ErrName},
		{"trimmed", trimmed, 2, record(4), api.ErrArg},
		{"trimmed", trimmed, 0, record(4), api.ErrArg},
		{"trimmed", trimmed, 4, record(4), api.ErrArg},
		{"trimmed", trimmed, 3, bad, api.ErrName},
		{"sealed", sealed, 0, record(1), api.ErrSealed},
		{"sealed", sealed, 0, bad, api.ErrSealed},
		{"sealed", sealed, 1, record(1), api.ErrArg},
	} {
		before := told(c.l)
		if e := c.l.Put(c.pos, c.r); e != c.want {
			t.Errorf("P601, P6: %s: Put(%d, %v) = %v, want %v", c.name, c.pos, c.r, e, c.want)
		}
		if got := told(c.l); got != before {
			t.Errorf("P5: %s: Put(%d, %v): %s, was %s", c.name, c.pos, c.r, got, before)
		}
	}
}

func TestPutGoesOnBehindARefusal(t *testing.T) {
	l := made(t, 2, 999)
	fill(t, l, 1, 3)
	l.Put(3, rec.Record{})
	l.Put(9, record(4))
	fill(t, l, 4, 5)
	sync(l)
	if got := values(l); got != "0=1 1=2 2=3 3=4 4=5" {
		t.Errorf("P601: %s", got)
	}
}

func TestPutUpToTheRoom(t *testing.T) {
	need := len(put(0, 1)) + 1
	for spare := -2; spare <= 2; spare++ {
		l := made(t, 1, need+spare)
		want := api.OK
		if spare < 0 {
			want = api.ErrFull
		}
		if e := l.Put(0, record(1)); e != want || (l.Next() == 1) != (want == api.OK) {
			t.Errorf("P601: Put with %d bytes to spare = %v, Next %d", spare, e, l.Next())
		}
	}
}

func TestGet(t *testing.T) {
	l := made(t, 3, 999)
	for pos, want := range map[int]api.Errno{math.MinInt: api.ErrArg, -1: api.ErrArg, 0: api.ErrUnwritten, 1: api.ErrUnwritten, math.MaxInt: api.ErrUnwritten} {
		if r, e := l.Get(pos); e != want || !rec.Same(r, rec.Record{}) {
			t.Errorf("P601, P4: Get(%d) of none = %v, %v", pos, r, e)
		}
	}
	fill(t, l, 1, 5)
	sync(l)
	cleared(t, l, 2)
	fill(t, l, 6, 7) // these wait
	for pos, want := range map[int]api.Errno{math.MinInt: api.ErrArg, -1: api.ErrArg, 0: api.ErrTrimmed, 1: api.ErrTrimmed, 7: api.ErrUnwritten, 8: api.ErrUnwritten, math.MaxInt: api.ErrUnwritten} {
		if r, e := l.Get(pos); e != want || !rec.Same(r, rec.Record{}) {
			t.Errorf("P601, P4: Get(%d) = %v, %v, want %v", pos, r, e, want)
		}
	}
	for pos := 2; pos < 7; pos++ {
		if r, e := l.Get(pos); e != api.OK || !rec.Same(r, record(pos+1)) {
			t.Errorf("P601: Get(%d) = %v, %v", pos, r, e)
		}
	}
	l.Crash(nil)
	for _, pos := range []int{math.MinInt, -1, 0, 2, 6, 7, math.MaxInt} {
		if r, e := l.Get(pos); e != api.ErrDown || !rec.Same(r, rec.Record{}) {
			t.Errorf("P601, P6: Get(%d) while it is down = %v, %v", pos, r, e)
		}
	}
}

func TestHeadStopsAtWhatWaits(t *testing.T) {
	l := made(t, 3, 999)
	fill(t, l, 1, 7) // 0 3 6, 1 4, 2 5
	for i, c := range []struct {
		do   func()
		head int
	}{
		{func() {}, 0},
		{func() { l.Sync(1) }, 0},
		{func() { l.Sync(0) }, 2},
		{func() { fill(t, l, 8, 9) }, 2}, // 7 of stripe 1, 8 of stripe 2
		{func() { l.Sync(2) }, 7},
		{func() { l.Sync(1) }, 9},
		{func() { fill(t, l, 10, 11) }, 9}, // 9, 10
		{func() { cleared(t, l, 4) }, 11},  // a segment's Trim makes last what waits there
		{func() { fill(t, l, 12, 12) }, 11},
		{func() { cleared(t, l, 11) }, 12},
		{func() { fill(t, l, 13, 13) }, 12},
		{func() { cleared(t, l, 12) }, 13},
	} {
		if c.do(); l.Head() != c.head {
			t.Errorf("P601: %d: Head %d, want %d", i, l.Head(), c.head)
		}
	}
}

func TestSync(t *testing.T) {
	l := made(t, 2, 999)
	fill(t, l, 1, 3)
	for i, c := range []struct {
		k     int
		want  bool
		waits string
	}{
		{-1, false, "2 1 0"}, {math.MinInt, false, "2 1 0"}, {8, false, "2 1 0"}, {math.MaxInt, false, "2 1 0"},
		{2, false, "2 1 0"}, {7, false, "2 1 0"}, {1, true, "2 0 0"}, {1, false, "2 0 0"}, {0, true, "0 0 0"}, {0, false, "0 0 0"},
	} {
		got := l.Sync(c.k)
		d := l.Disks()
		if waits := fmt.Sprint(d[0].Waits(), " ", d[1].Waits(), " ", d[2].Waits()); got != c.want || waits != c.waits {
			t.Errorf("P601: %d: Sync(%d) = %v, %s", i, c.k, got, waits)
		}
	}
	all := made(t, 8, 99)
	fill(t, all, 1, 8)
	for k := range 8 {
		if !all.Sync(k) || all.Head() != k+1 {
			t.Errorf("P601: Sync(%d): Head %d", k, all.Head())
		}
	}
	fill(t, l, 4, 4)
	l.Crash([]int{99, 99})
	for k := -1; k <= 8; k++ {
		if l.Sync(k) {
			t.Errorf("P601: Sync(%d) while it is down", k)
		}
	}
}

func TestTrimWritesItsLines(t *testing.T) {
	l := made(t, 2, 999)
	fill(t, l, 1, 5)
	sync(l)
	fill(t, l, 6, 7)
	cleared(t, l, 3)
	first := "t 3 " + vec.Text(vec.Vec{2, 6, 4})
	if got := lines(l, 8); got != fmt.Sprintf("%q 0", []string{first}) {
		t.Errorf("P601: the own disk: %s, want %s", got, first)
	}
	for k, put := range [][]string{{put(0, 1), put(2, 3), put(4, 5), put(6, 7), "t 3"}, {put(1, 2), put(3, 4), put(5, 6), "t 3"}, {"t 3"}, 7: {"t 3"}} {
		if put == nil {
			put = []string{"t 3"}
		}
		if got := lines(l, k); got != fmt.Sprintf("%q 0", put) {
			t.Errorf("P601: segment %d: %s, want %q", k, got, put)
		}
	}
	if got := brief(l); got != "false 7/7 3[2 6 4] [3 1 5] 1:2" || values(l) != "3=4 4=5 5=6 6=7" {
		t.Errorf("P601: %s: %s", got, values(l))
	}
	cleared(t, l, 3)
	if got := lines(l, 8); got != fmt.Sprintf("%q 0", []string{first, first}) || lines(l, 7) != `["t 3"] 0` {
		t.Errorf("P601: a Trim to where it stands: %s, %s", got, lines(l, 7))
	}
	cleared(t, l, 7)
	if got := brief(l); got != "false 7/7 7[3 1 5] [3 1 5] 1:2" || values(l) != "" {
		t.Errorf("P601: a Trim to Head: %s", got)
	}
}

func TestTrimRefuses(t *testing.T) {
	down := made(t, 2, 999)
	down.Crash(nil)
	l := made(t, 2, 999)
	fill(t, l, 1, 6)
	l.Sync(0)
	l.Sync(1)
	cleared(t, l, 2)
	fill(t, l, 7, 8)
	whole := made(t, 2, 99)
	whole.Trim(0, nil)
	for whole.Trim(0, nil) == api.OK {
	}
	for _, c := range []struct {
		name string
		l    *maint.Log
		pos  int
		v    vec.Vec
		want api.Errno
	}{
		{"down", down, 0, nil, api.ErrDown},
		{"down", down, -1, vec.Vec{1}, api.ErrDown},
		{"trimmed", l, -1, vec.Vec{0, 6, 4}, api.ErrArg},
		{"trimmed", l, math.MinInt, nil, api.ErrArg},
		{"trimmed", l, 0, nil, api.ErrArg},
		{"trimmed", l, 1, vec.Vec{0, 6}, api.ErrArg},
		{"trimmed", l, 7, vec.Vec{3, 1, 5}, api.ErrArg},
		{"trimmed", l, 8, vec.Vec{3, 1, 6}, api.ErrArg},
		{"trimmed", l, 9, vec.Vec{3, 1, 6}, api.ErrArg},
		{"trimmed", l, math.MaxInt, vec.Vec{3, 1, 6}, api.ErrArg},
		{"trimmed", l, 2, nil, api.ErrArg},
		{"trimmed", l, 2, vec.Vec{0, 6}, api.ErrArg},
		{"trimmed", l, 2, vec.Vec{0, 6, 4, 1}, api.ErrArg},
		{"trimmed", l, 2, vec.Vec{0, 6, 5}, api.ErrArg},
		{"trimmed", l, 2, vec.Vec{0, 6, 3}, api.ErrArg},
		{"trimmed", l, 2, append(make(vec.Vec, 99), 1), api.ErrArg},
		{"trimmed", l, 3, vec.Vec{0, 6, 4}, api.ErrArg},
		{"trimmed", l, 3, vec.Vec{2}, api.ErrArg},
		{"trimmed", l, 3, vec.Vec{-1, 6, 4}, api.ErrArg},
		{"full", whole, 1, nil, api.ErrArg},
		{"full", whole, 0, vec.Vec{1}, api.ErrArg},
		{"full", whole, 0, nil, api.ErrFull},
	} {
		before := told(c.l)
		if e := c.l.Trim(c.pos, c.v); e != c.want {
			t.Errorf("P601, P6: %s: Trim(%d, %v) = %v, want %v", c.name, c.pos, c.v, e, c.want)
		}
		if got := told(c.l); got != before {
			t.Errorf("P5: %s: Trim(%d, %v): %s, was %s", c.name, c.pos, c.v, got, before)
		}
	}
	for _, v := range []vec.Vec{{0, 6, 4}, {0, 6, 4, 0}, append(vec.Vec{0, 6, 4}, make(vec.Vec, 99)...)} {
		if e := l.Trim(2, v); e != api.OK {
			t.Errorf("P601: Trim(2, %v) = %v", v, e)
		}
		if _, gone := l.Trimmed(); vec.Text(gone) != "[0 6 4]" {
			t.Errorf("P601: Trimmed behind it: %v", gone)
		}
	}
}

// TestTrimTakesTheLastOfASite: what is gone of a site is its last record there, not its greatest number.
func TestTrimTakesTheLastOfASite(t *testing.T) {
	l := made(t, 1, 999)
	for i, seq := range []int{5, 9, 2} {
		l.Put(i, rec.Record{Site: 4, Seq: seq, Key: "k"})
	}
	l.Sync(0)
	for pos, want := range []string{"[]", "[0 0 0 0 5]", "[0 0 0 0 9]", "[0 0 0 0 2]"} {
		x := l.Twin()
		v, _ := vec.Parse(want)
		if e := x.Trim(pos, v); e != api.OK {
			t.Errorf("P601: Trim(%d, %s) = %v", pos, want, e)
		}
		if _, gone := x.Trimmed(); vec.Text(gone) != want || vec.Text(x.Vec()) != "[0 0 0 0 2]" {
			t.Errorf("P601: Trimmed %v, Vec %v behind Trim(%d, %s)", gone, x.Vec(), pos, want)
		}
	}
}

func TestTrimUpToTheRoom(t *testing.T) {
	two := 2 * (len("t 0 []") + 1)
	need := len("t 1 [1]") + 1
	for spare := -1; spare <= 1; spare++ {
		l := made(t, 1, two+need+spare)
		l.Put(0, rec.Record{Seq: 1, Key: "k"})
		l.Sync(0)
		cleared(t, l, 0)
		cleared(t, l, 0)
		before := told(l)
		e := l.Trim(1, vec.Vec{1})
		switch {
		case spare < 0 && (e != api.ErrFull || told(l) != before):
			t.Errorf("P601, P5: Trim with a byte too few = %v, %s", e, told(l))
		case spare >= 0 && (e != api.OK || brief(l) != "false 1/1 1[1] [1] 1:1"):
			t.Errorf("P601: Trim with %d bytes to spare = %v, %s", spare, e, brief(l))
		}
	}
}

// TestTrimWithoutRoomInASegment: such a segment still has what is trimmed, but nobody is told it, and what waits there waits.
func TestTrimWithoutRoomInASegment(t *testing.T) {
	room := len(put(0, 1)) + len(put(2, 3)) + 2 + 2
	l := made(t, 2, room)
	fill(t, l, 1, 2)
	sync(l)
	fill(t, l, 3, 3)
	cleared(t, l, 2)
	if got := lines(l, 0); got != fmt.Sprintf("%q 1", []string{put(0, 1), put(2, 3)}) {
		t.Errorf("P601: a segment without room: %s", got)
	}
	for range 2 {
		if _, e := l.Get(0); e != api.ErrTrimmed || values(l) != "" || l.Head() != 2 {
			t.Errorf("P601: %v, %s, Head %d", e, values(l), l.Head())
		}
		again(t, l)
		if got := brief(l); got != "false 2/2 2[0 6 4] [0 6 4] 1:2" {
			t.Errorf("P602: behind a Crash: %s", got)
		}
	}
	if e := l.Put(2, record(9)); e != api.OK {
		t.Errorf("P602: Put where all was lost = %v", e)
	}
}

func TestResizeWritesItsLines(t *testing.T) {
	l := made(t, 2, 999)
	fill(t, l, 1, 3)
	sync(l)
	resized(t, l, 3)
	fill(t, l, 4, 8) // 3, 6; 4, 7; 5
	want := [][]string{{put(0, 1), put(2, 3), "s 1", put(3, 4), put(6, 7)}, {put(1, 2), "s 1", put(4, 5), put(7, 8)}, {"s 1", put(5, 6)}, {"s 1"}, {"s 1"}, {"s 1"}, {"s 1"}, {"s 1"}, {"m 0/2 3/3"}}
	for k, waits := range []int{2, 2, 1, 0, 0, 0, 0, 0, 0} {
		if got := lines(l, k); got != fmt.Sprintf("%q %d", want[k], waits) {
			t.Errorf("P601: disk %d: %s, want %q, %d", k, got, want[k], waits)
		}
	}
	sync(l)
	resized(t, l, 1)
	resized(t, l, 8)
	if got := lines(l, 8); got != `["m 0/2 3/3" "m 0/2 3/3 8/1" "m 0/2 3/3 8/1 8/8"] 0` {
		t.Errorf("P601: the own disk: %s", got)
	}
	if got := lines(l, 7); got != `["s 1" "s 2" "s 3"] 0` {
		t.Errorf("P601: the last segment: %s", got)
	}
	if got := brief(l); got != "false 8/8 0[] [3 1 6] 4:8" || values(l) != "0=1 1=2 2=3 3=4 4=5 5=6 6=7 7=8" {
		t.Errorf("P601: %s: %s", got, values(l))
	}
	want8 := brief(l)
	again(t, l)
	if got := brief(l); got != want8 {
		t.Errorf("P602: %s, want %s", got, want8)
	}
}

func TestResizeRefuses(t *testing.T) {
	waits := made(t, 2, 999)
	fill(t, waits, 1, 3)
	waits.Sync(0)
	down := made(t, 2, 999)
	down.Crash(nil)
	for _, c := range []struct {
		name string
		l    *maint.Log
		n    int
		want api.Errno
	}{
		{"down", down, 0, api.ErrDown}, {"down", down, 1, api.ErrDown},
		{"new", made(t, 2, 999), 0, api.ErrArg}, {"new", made(t, 2, 999), 9, api.ErrArg}, {"new", made(t, 2, 999), -1, api.ErrArg},
		{"new", made(t, 2, 999), math.MaxInt, api.ErrArg}, {"new", made(t, 2, 999), math.MinInt, api.ErrArg}, {"new", made(t, 2, 1), 9, api.ErrArg},
		{"waits", waits, 0, api.ErrArg}, {"waits", waits, 9, api.ErrArg}, {"waits", waits, 1, api.ErrState}, {"waits", waits, 2, api.ErrState},
	} {
		before := told(c.l)
		if e := c.l.Resize(c.n); e != c.want || told(c.l) != before {
			t.Errorf("P601, P5, P6: %s: Resize(%d) = %v, want %v; %s", c.name, c.n, e, c.want, told(c.l))
		}
	}
}

// TestResizeFallsAtAFullSegment: those ahead are sealed, those behind not, and the next Resize goes on from there.
func TestResizeFallsAtAFullSegment(t *testing.T) {
	long := record(2)
	long.Val = "longer"
	text := "p 1 " + rec.Text(long)
	l := made(t, 2, len(text)+1) // the seal fits behind a short record, not behind a long one
	fill(t, l, 1, 1)
	l.Put(1, long)
	sync(l)
	for range 3 {
		if e := l.Resize(2); e != api.ErrFull || !l.Down() {
			t.Errorf("P601: Resize = %v, down %v", e, l.Down())
		}
		if got := brief(l); got != "true 0/0 0[] [] 1:2" {
			t.Errorf("P601: it fell: %s", got)
		}
		for k, want := range [][]string{{put(0, 1), "s 1"}, {text}, 8: nil} {
			if got := lines(l, k); got != fmt.Sprintf("%q 0", want) {
				t.Errorf("P601: disk %d: %s, want %q", k, got, want)
			}
		}
		for name, e := range map[string]api.Errno{"Put": l.Put(2, record(3)), "Trim": l.Trim(0, nil), "Resize": l.Resize(1)} {
			if e != api.ErrDown {
				t.Errorf("P601: %s behind the fall = %v", name, e)
			}
		}
		if e := l.Recover(); e != api.OK || brief(l) != "false 2/2 0[] [0 6 4] 1:2" || l.Put(2, record(3)) != api.ErrSealed {
			t.Errorf("P602: Recover behind the fall = %v, %s", e, brief(l))
		}
	}
}

func TestResizeFallsAtItsOwnDisk(t *testing.T) {
	for _, c := range []struct {
		room int
		want api.Errno
	}{
		{3, api.ErrFull},  // no seal
		{4, api.ErrFull},  // `s 1`, but no map
		{9, api.ErrFull},  // `m 0/1 0/2` has no room for its end
		{10, api.OK},      // all
		{999, api.OK},     // all
		{1 << 20, api.OK}, // all
	} {
		l := made(t, 1, c.room)
		e := l.Resize(2)
		if e != c.want || l.Down() != (c.want != api.OK) {
			t.Errorf("P601: Resize in %d bytes = %v, down %v", c.room, e, l.Down())
			continue
		}
		if c.want == api.OK {
			continue
		}
		for range 3 {
			if e := l.Recover(); e != api.OK || brief(l) != "false 0/0 0[] [] 1:1" {
				t.Errorf("P602: in %d bytes: Recover = %v, %s", c.room, e, brief(l))
			}
			if e := l.Resize(2); e != api.ErrFull || !l.Down() {
				t.Errorf("P601: in %d bytes: Resize once more = %v, down %v", c.room, e, l.Down())
			}
		}
		seals := `["s 1"] 0`
		if c.room < 4 {
			seals = "[] 0"
		}
		for k := range 8 {
			if got := lines(l, k); got != seals {
				t.Errorf("P601: in %d bytes: segment %d: %s, want %s", c.room, k, got, seals)
			}
		}
	}
}

// TestResizeTakesSegmentsThatAreSealed: a Resize that fell sealed some; one that has room goes on with the others.
func TestResizeTakesSegmentsThatAreSealed(t *testing.T) {
	l := made(t, 2, 99)
	own := l.Disks()[8]
	own.Write(strings.Repeat("x", 98))
	own.Sync()
	if e := l.Resize(3); e != api.ErrFull || !l.Down() {
		t.Fatalf("P601: Resize = %v", e)
	}
	own.Cut(0)
	if e := l.Recover(); e != api.OK || l.Put(0, record(1)) != api.ErrSealed {
		t.Errorf("P602: %v, %s", e, brief(l))
	}
	resized(t, l, 3)
	for k := range 8 {
		if got := lines(l, k); got != `["s 1"] 0` {
			t.Errorf("P601: segment %d: %s", k, got)
		}
	}
	fill(t, l, 1, 1)
	if l.Epoch() != 2 || l.Stripes() != 3 {
		t.Errorf("P601: %s", brief(l))
	}
}

func TestDownTellsNothing(t *testing.T) {
	l := made(t, 2, 999)
	fill(t, l, 1, 5)
	sync(l)
	cleared(t, l, 2)
	resized(t, l, 3)
	fill(t, l, 6, 7)
	if l.Down() {
		t.Error("P601: it is down")
	}
	l.Crash([]int{99, 99})
	for range 2 {
		if got := brief(l); got != "true 0/0 0[] [] 2:3" {
			t.Errorf("P601: %s", got)
		}
		for _, from := range []int{-1, 0, 2, 9, math.MaxInt, math.MinInt} {
			if got := seen(l.All(from)); got != "" {
				t.Errorf("P601: All(%d):%s", from, got)
			}
		}
		l = l.Twin()
	}
}

func TestCrashKeepsFirstBytes(t *testing.T) {
	l := made(t, 2, 999)
	fill(t, l, 1, 3)
	sync(l)
	fill(t, l, 4, 9) // 3, 5, 7 of stripe 1; 4, 6, 8 of stripe 0
	one := len(put(4, 5)) + 1
	for _, c := range []struct {
		keep []int
		want string
	}{
		{nil, "3"}, {[]int{}, "3"}, {[]int{999}, "3"}, {[]int{0, one - 1}, "3"}, {[]int{0, one}, "4"}, {[]int{-1, one}, "4"}, {[]int{one - 1, one}, "4"},
		{[]int{one, one}, "5"}, {[]int{one, 2 * one}, "6"}, {[]int{2*one - 1, 3 * one}, "6"}, {[]int{2 * one, 3 * one}, "8"}, {[]int{3 * one, 3*one - 1}, "7"},
		{[]int{999, 999}, "9"}, {[]int{math.MaxInt, math.MaxInt, 9, 9, 9, 9, 9, 9, 9, 9, 9, 9}, "9"}, {[]int{math.MinInt, math.MinInt}, "3"},
	} {
		x := l.Twin()
		again(t, x, c.keep...)
		if got := fmt.Sprint(x.Head()); got != c.want || x.Next() != x.Head() || x.Down() {
			t.Errorf("P602: Crash(%v): %s, want %s", c.keep, brief(x), c.want)
		}
		want := ""
		for pos := range x.Head() {
			want += fmt.Sprint(" ", pos, "=", rec.Text(record(pos+1)))
		}
		if got := seen(x.All(0)); got != want {
			t.Errorf("P602: Crash(%v):%s, want%s", c.keep, got, want)
		}
		was := told(x)
		again(t, x)
		if got := told(x); got != was {
			t.Errorf("P602: recovered twice: %s, was %s", got, was)
		}
		next := x.Next()
		fill(t, x, 50, 53)
		sync(x)
		again(t, x)
		if end := fmt.Sprintf("%d=50 %d=51 %d=52 %d=53", next, next+1, next+2, next+3); !strings.HasSuffix(values(x), end) {
			t.Errorf("P602: it goes on: %s, want %s", values(x), end)
		}
	}
}

func TestCrashTwice(t *testing.T) {
	l := made(t, 2, 999)
	fill(t, l, 1, 4)
	l.Crash([]int{99, 99})
	l.Crash(nil)
	if e := l.Recover(); e != api.OK || values(l) != "0=1 1=2 2=3 3=4" {
		t.Errorf("P602: what a Crash kept lasts: %v, %s", e, values(l))
	}
}

func TestRecoverCutsInAllSegments(t *testing.T) {
	l := made(t, 3, 999)
	fill(t, l, 1, 6) // 0, 3; 1, 4; 2, 5
	l.Sync(0)
	l.Sync(2)
	again(t, l) // 1 is lost, and so are 2, 3, 5
	if got := brief(l); got != "false 1/1 0[] [0 6] 1:3" {
		t.Errorf("P602: %s", got)
	}
	for k, want := range [][]string{{put(0, 1), put(3, 4), "c 1"}, {"c 1"}, {put(2, 3), put(5, 6), "c 1"}, {"c 1"}, {"c 1"}, {"c 1"}, {"c 1"}, {"c 1"}, nil} {
		if got := lines(l, k); got != fmt.Sprintf("%q 0", want) {
			t.Errorf("P602: disk %d: %s, want %q", k, got, want)
		}
	}
	again(t, l)
	if got := lines(l, 7); got != `["c 1"] 0` {
		t.Errorf("P602: nobody has anything above, but: %s", got)
	}
	fill(t, l, 7, 9)
	sync(l)
	if got := values(l); got != "0=1 1=7 2=8 3=9" {
		t.Errorf("P602: it goes on: %s", got)
	}
	again(t, l)
	if got := values(l); got != "0=1 1=7 2=8 3=9" {
		t.Errorf("P602: what was put where something was cut: %s", got)
	}
}

func TestRecoverCutsFromTheTrimOn(t *testing.T) {
	l := made(t, 2, 999)
	fill(t, l, 1, 4)
	sync(l)
	cleared(t, l, 4)
	fill(t, l, 5, 6)
	l.Sync(1)
	again(t, l)
	if got := brief(l); got != "false 4/4 4[2 7 4] [2 7 4] 1:2" {
		t.Errorf("P602: %s", got)
	}
	if got := lines(l, 7); got != `["t 4" "c 4"] 0` {
		t.Errorf("P602: %s", got)
	}
}

// TestRecoverThatHasNoRoom: one segment is full, and cannot say what is cut.
func TestRecoverThatHasNoRoom(t *testing.T) {
	room := 2*len(put(1, 2)) + 2 + 3 // `c 0` does not fit behind two records
	l := made(t, 2, room)
	fill(t, l, 1, 4)
	l.Sync(1)
	for range 3 {
		l.Crash(nil)
		for range 3 {
			before := told(l)
			if e := l.Recover(); e != api.ErrFull || !l.Down() || told(l) != before {
				t.Errorf("P602, P5: Recover = %v, %s, was %s", e, told(l), before)
			}
		}
		l = l.Twin()
	}
	room++ // now it does
	l = made(t, 2, room)
	fill(t, l, 1, 4)
	l.Sync(1)
	again(t, l)
	if got := brief(l); got != "false 0/0 0[] [] 1:2" {
		t.Errorf("P602: with room: %s", got)
	}
}

// TestRecoverIsRefusedTheSameWayAgain: the full segment has nothing that is cut, and is behind one that has;
// a Recover that is refused changes nothing, so that one more of them is refused as well.
func TestRecoverIsRefusedTheSameWayAgain(t *testing.T) {
	short, long := rec.Record{Seq: 1, Key: "k"}, rec.Record{Seq: 1, Key: "longlong", Val: "longlonglonglong"}
	for spare := range 6 {
		l := made(t, 3, len("p 2 "+rec.Text(long))+len("s 1")+2+spare)
		for pos, r := range []rec.Record{short, short, long} {
			l.Put(pos, r)
		}
		sync(l)
		resized(t, l, 2) // the third segment has room for a seal, and spare bytes
		l.Put(3, short)
		l.Put(4, short)
		l.Sync(1)
		l.Crash(nil)
		want, down := api.OK, false
		if spare < len("c 3")+1 {
			want, down = api.ErrFull, true
		}
		before := told(l)
		for range 3 {
			if e := l.Recover(); e != want || l.Down() != down || down && told(l) != before {
				t.Errorf("P602, P5: Recover with %d bytes to spare = %v, %s, was %s", spare, e, told(l), before)
			}
			if !down {
				l.Crash(nil)
			}
		}
	}
}

func TestRecoverOfALogThatIsUp(t *testing.T) {
	l := made(t, 2, 999)
	fill(t, l, 1, 3)
	for range 2 {
		before := told(l)
		if e := l.Recover(); e != api.ErrState || told(l) != before {
			t.Errorf("P602, P5: Recover = %v, %s", e, told(l))
		}
		again(t, l, 99)
	}
}

func TestRecoverReadsItsOwnLines(t *testing.T) {
	good := []string{"m 0/2 0/3", "t 0 []", "t 0 [7]", "m 0/2 0/3 0/1"}
	for _, c := range []struct {
		line string
		want string // what it recovers to, if the line holds
	}{
		{"t 4 [1 2]", "false 4/4 4[1 2] [1 2] 3:1"},
		{"t 0 []", "false 0/0 0[] [] 3:1"},
		{"t 2147483647 [0 0 0 0 0 0 0 1048576]", fmt.Sprintf("false %d/%[1]d %[1]d[0 0 0 0 0 0 0 1048576] [0 0 0 0 0 0 0 1048576] 3:1", 1<<31-1)},
		{"m 0/8", "false 0/0 0[7] [7] 1:8"},
		{"m 0/2 0/3 0/1 5/4", "false 0/0 0[7] [7] 4:4"},
		{"", ""}, {" ", ""}, {"x", ""}, {"t", ""}, {"m", ""}, {"t ", ""}, {"m ", ""}, {"T 4 [1]", ""}, {"tm", ""}, {" t 4 [1]", ""},
		{"t 4", ""}, {"t 4 ", ""}, {"t [1]", ""}, {"t  [1]", ""}, {"t 04 [1]", ""}, {"t -4 [1]", ""}, {"t +4 [1]", ""}, {"t 4  [1]", ""}, {"t  4 [1]", ""}, {"t 4 [1] ", ""},
		{"t 4 [0]", ""}, {"t 4 [01]", ""}, {"t 4 [-1]", ""}, {"t 4 [1048577]", ""}, {"t 4 [1 1 1 1 1 1 1 1 1]", ""}, {"t 2147483648 [1]", ""}, {"t 4 1", ""},
		{"m 1/2", ""}, {"m 0/0", ""}, {"m 0/9", ""}, {"m 0/2 3/1 2/1", ""}, {"m 0/2  0/3", ""}, {"m 0/2 ", ""}, {"m  0/2", ""}, {"m 0/02", ""}, {"m 0", ""}, {"m 0/2 2147483648/1", ""},
		{"p 0 0:1 [] k=v", ""}, {"s 1", ""}, {"c 0", ""},
	} {
		for _, behind := range []string{"", "t 9 [9]", "m 0/7"} {
			l := made(t, 2, 999)
			d := l.Disks()[8]
			for _, line := range append(append([]string{}, good...), c.line, behind) {
				d.Write(line)
			}
			d.Sync()
			if behind == "" {
				d.Cut(len(good) + 1)
			}
			again(t, l)
			want, have := c.want, append(append([]string{}, good...), c.line)
			if want == "" {
				want, have = "false 0/0 0[7] [7] 3:1", good
			} else if behind != "" {
				continue
			}
			if got := brief(l); got != want || lines(l, 8) != fmt.Sprintf("%q 0", have) {
				t.Errorf("P602: %q: %s, %s; want %s", c.line, got, lines(l, 8), want)
			}
		}
	}
	l := made(t, 2, 999)
	d := l.Disks()[8]
	for _, line := range []string{"t 4 [4]", "t 3 [3]", "t 5 [5]"} {
		d.Write(line)
	}
	d.Sync()
	again(t, l)
	if got := brief(l); got != "false 4/4 4[4] [4] 1:2" || lines(l, 8) != `["t 4 [4]"] 0` {
		t.Errorf("P602: a trim below the trim: %s, %s", got, lines(l, 8))
	}
	if e := l.Put(4, record(1)); e != api.OK {
		t.Errorf("P602: Put behind it = %v", e)
	}
}

// TestRecoverKnowsWhatItsLinesTell: and nothing that it knew ahead of the fall.
func TestRecoverKnowsWhatItsLinesTell(t *testing.T) {
	l := made(t, 2, 999)
	fill(t, l, 1, 3)
	sync(l)
	resized(t, l, 3)
	cleared(t, l, 1)
	resized(t, l, 4)
	for k, want := range []string{3: "false 3/3 1[0 6] [2 6 4] 3:4", 2: "false 3/3 1[0 6] [2 6 4] 2:3", 1: "false 0/0 0[] [] 2:3", 0: "false 0/0 0[] [] 1:2"} {
		x := l.Twin()
		x.Disks()[8].Cut(k)
		again(t, x)
		if got := brief(x); got != want {
			t.Errorf("P602: of %d lines: %s, want %s", k, got, want)
		}
	}
}

func TestCrashKeepsNothingOfItsOwn(t *testing.T) {
	l := made(t, 2, 999)
	d := l.Disks()[8]
	d.Write("t 4 [4]")
	again(t, l, 99, 99, 99, 99, 99, 99, 99, 99, 99)
	if got := brief(l); got != "false 0/0 0[] [] 1:2" || d.Len() != 0 {
		t.Errorf("P602: %s", got)
	}
}

func TestAll(t *testing.T) {
	l := made(t, 3, 999)
	fill(t, l, 1, 7)
	sync(l)
	cleared(t, l, 2)
	fill(t, l, 8, 8)
	for from, first := range map[int]int{math.MinInt: 2, -1: 2, 0: 2, 1: 2, 2: 2, 3: 3, 6: 6, 7: 7, 8: 8, 9: 9, math.MaxInt: 9} {
		want := ""
		for pos := first; pos < 7; pos++ {
			want += fmt.Sprint(" ", pos, "=", rec.Text(record(pos+1)))
		}
		if got := seen(l.All(from)); got != want {
			t.Errorf("P601: All(%d):%s, want%s", from, got, want)
		}
	}
}

func TestAllMayBeLeft(t *testing.T) {
	l := made(t, 2, 999)
	fill(t, l, 1, 3)
	sync(l)
	for stop := range 3 {
		calls := 0
		l.All(0)(func(int, rec.Record) bool { calls++; return calls <= stop })
		if calls != stop+1 {
			t.Errorf("P7: left at %d, went on to %d", stop, calls-1)
		}
	}
	seq := l.All(0)
	got := ""
	for outer := range seq {
		for inner := range seq {
			got += fmt.Sprint(outer, inner, " ")
		}
	}
	if got != "0 0 0 1 0 2 1 0 1 1 1 2 2 0 2 1 2 2 " {
		t.Errorf("P7: ranged over within itself: %s", got)
	}
}

// changed makes a log with some of all.
func changed(t testing.TB) *maint.Log {
	t.Helper()
	l := made(t, 2, 999)
	fill(t, l, 1, 4)
	sync(l)
	cleared(t, l, 1)
	resized(t, l, 3)
	fill(t, l, 5, 7)
	l.Sync(0)
	return l
}

// changes are the calls that change a log of changed.
func changes(t testing.TB) map[string]func(l *maint.Log) {
	return map[string]func(l *maint.Log){
		"Put":               func(l *maint.Log) { l.Put(l.Next(), record(9)) },
		"Sync":              func(l *maint.Log) { l.Sync(1); l.Sync(2) },
		"Trim":              func(l *maint.Log) { l.Trim(3, below(l, 3)) },
		"Trim to Head":      func(l *maint.Log) { l.Trim(5, below(l, 5)) },
		"Resize":            func(l *maint.Log) { sync(l); l.Resize(1) },
		"Crash":             func(l *maint.Log) { l.Crash(nil) },
		"Crash, Recover":    func(l *maint.Log) { l.Crash(nil); l.Recover(); l.Put(l.Next(), record(9)) },
		"a Crash that cuts": func(l *maint.Log) { l.Sync(2); l.Crash(nil); l.Recover() },
	}
}

func TestAllGoesOverWhatWasThen(t *testing.T) {
	want := seen(changed(t).All(0))
	for name, change := range changes(t) {
		l := changed(t)
		seq := l.All(0)
		change(l)
		for range 2 {
			if got := seen(seq); got != want {
				t.Errorf("P7: behind %s:%s, want%s", name, got, want)
			}
		}
		l = changed(t)
		got := ""
		for pos, r := range l.All(0) {
			change(l)
			got += fmt.Sprint(" ", pos, "=", rec.Text(r))
		}
		if got != want {
			t.Errorf("P7: %s while it is ranged over:%s", name, got)
		}
	}
}

func TestTwin(t *testing.T) {
	want := told(changed(t))
	for name, change := range changes(t) {
		l := changed(t)
		twin := l.Twin()
		if twin == l || told(twin) != want {
			t.Errorf("P601, P7: a twin: %s, want %s", told(twin), want)
		}
		change(l)
		if got := told(twin); got != want {
			t.Errorf("P7: behind %s of the other: %s", name, got)
		}
		after := told(l)
		l = changed(t)
		twin = l.Twin()
		change(twin)
		if got := told(l); got != want {
			t.Errorf("P7: behind %s of its twin: %s", name, got)
		}
		if got := told(twin); got != after {
			t.Errorf("P601: %s of a twin: %s, want %s", name, got, after)
		}
		// and one of a log that was changed goes on as that does
		one, two := twin.Twin(), twin
		for _, x := range []*maint.Log{one, two} {
			x.Crash([]int{30, 30, 30})
			x.Recover()
			x.Put(x.Next(), record(8))
		}
		if told(one) != told(two) {
			t.Errorf("P3: behind %s: %s, its twin %s", name, told(two), told(one))
		}
	}
}

func TestTwinOfALogThatIsDown(t *testing.T) {
	l := changed(t)
	l.Crash(nil)
	twin := l.Twin()
	if e := twin.Recover(); e != api.OK || !l.Down() || twin.Down() {
		t.Errorf("P7: %v, %s, %s", e, brief(l), brief(twin))
	}
	if e := l.Recover(); e != api.OK || told(l) != told(twin) {
		t.Errorf("P3: %v, %s, its twin %s", e, told(l), told(twin))
	}
}

func TestWhatIsHandedInIsNotKept(t *testing.T) {
	l := made(t, 2, 999)
	whole := vec.Vec{3, 77, 77}
	r := rec.Record{Site: 1, Seq: 2, Dep: whole[:1], Key: "k"}
	keep := []int{99, 99, 77}
	gone := vec.Vec{0, 2, 77}
	l.Put(0, r)
	l.Sync(0)
	if e := l.Trim(1, gone[:2]); e != api.OK {
		t.Errorf("P601: %v", e)
	}
	l.Put(1, r)
	l.Sync(1)
	want := told(l)
	scribble(whole[:1])
	scribble(gone[:2])
	if got := told(l); got != want {
		t.Errorf("P2: %s, was %s", got, want)
	}
	again(t, l, keep[:2]...)
	if got := brief(l); got != "false 2/2 1[0 2] [0 2] 1:2" || fmt.Sprint(keep) != "[99 99 77]" {
		t.Errorf("P2: %s, %v", got, keep)
	}
	whole, gone = vec.Vec{0, 2, 77}, vec.Vec{0, 2, 77}
	l.Put(2, rec.Record{Site: 2, Seq: 1, Dep: whole[:2], Key: "k"})
	l.Trim(1, gone[:2])
	if fmt.Sprint(whole, gone) != "[0 2 77] [0 2 77]" {
		t.Errorf("P2: what was handed in is changed: %v, %v", whole, gone)
	}
}

// scribble writes over a list and its spare room.
func scribble(v vec.Vec) {
	v = v[:cap(v)]
	for i := range v {
		v[i] = 99
	}
}

func TestAnswersAreNewMemory(t *testing.T) {
	recovered, empty := changed(t), changed(t)
	again(t, recovered)
	cleared(t, empty, empty.Head())
	cleared(t, empty, empty.Head()) // the Trim ahead made more last
	for name, l := range map[string]*maint.Log{"up": changed(t), "twin": changed(t).Twin(), "recovered": recovered, "trimmed": empty} {
		twin, seq, want := l.Twin(), l.All(0), told(l)
		all := seen(seq)
		for range 2 {
			_, v := l.Trimmed()
			scribble(v)
			scribble(l.Vec())
			for pos := range 9 {
				r, _ := l.Get(pos)
				scribble(r.Dep)
			}
			for _, r := range l.All(0) {
				scribble(r.Dep)
			}
			if got := seen(seq); got != all {
				t.Errorf("P2: a sequence of one %s shares memory:%s", name, got)
			}
			for _, r := range seq {
				scribble(r.Dep)
			}
		}
		if told(l) != want || told(twin) != want {
			t.Errorf("P2: answers of one %s share memory: %s", name, told(l))
		}
	}
}

// TestFullDisks fills all segments up to the greatest room there is.
func TestFullDisks(t *testing.T) {
	l := made(t, 8, 1<<20)
	r := rec.Record{Seq: 1, Key: "k"}
	n := 0
	for ; ; n++ {
		if e := l.Put(n, r); e == api.ErrFull {
			break
		} else if e != api.OK {
			t.Fatalf("P601: Put at %d = %v", n, e)
		}
	}
	if n < 1<<18 || l.Next() != n || l.Head() != 0 {
		t.Errorf("P601: %d records, %s", n, brief(l))
	}
	for k := range 8 {
		if !l.Sync(k) {
			t.Errorf("P601: Sync(%d)", k)
		}
	}
	if l.Head() != n || vec.Text(l.Vec()) != "[1]" {
		t.Errorf("P601: %s", brief(l))
	}
	again(t, l)
	if l.Head() != n || l.Next() != n {
		t.Errorf("P602: %s", brief(l))
	}
}
