package timer

import (
	"cmp"
	"encoding/binary"
	"math"
	"math/bits"
	"math/rand"
	"runtime"
	"slices"
	"testing"
)

// keys and dues are numbers at the edges, and about them.
var (
	keys = []uint64{0, 1, 2, 3, 5, 7, 8, 255, 256, 1<<31 - 1, 1 << 31, 1<<32 - 1, 1 << 32, 1<<53 + 1, 1<<62 + 1, 1<<63 - 1, 1 << 63, 1<<63 + 1, math.MaxUint64 - 1, math.MaxUint64}
	dues = []int64{math.MinInt64, math.MinInt64 + 1, -1 << 53, -1 << 32, -1 << 31, -10, -1, 0, 1, 9, 10, 11, 1 << 31, 1 << 32, 1 << 53, math.MaxInt64 - 1, math.MaxInt64}
)

// plain is a plain list of timers, gone through whole for each question.
type plain []timer

func (p *plain) index(key uint64) int {
	return slices.IndexFunc(*p, func(one timer) bool { return one.key == key })
}

func (p *plain) Set(key uint64, due int64) {
	p.Stop(key)
	*p = append(*p, timer{key, due})
}

func (p *plain) Stop(key uint64) bool {
	i := p.index(key)
	if i < 0 {
		return false
	}
	*p = slices.Delete(*p, i, i+1)
	return true
}

func (p *plain) Due(key uint64) (int64, bool) {
	i := p.index(key)
	if i < 0 {
		return 0, false
	}
	return (*p)[i].due, true
}

// sorted answers the timers in the order in which they come.
func (p *plain) sorted() []timer {
	return slices.SortedFunc(slices.Values(*p), func(a, b timer) int {
		return cmp.Or(cmp.Compare(a.due, b.due), cmp.Compare(a.key, b.key))
	})
}

func (p *plain) Next(now int64) (uint64, bool) {
	order := p.sorted()
	if len(order) == 0 || order[0].due > now {
		return 0, false
	}
	return order[0].key, p.Stop(order[0].key)
}

func (p *plain) First() (int64, bool) {
	order := p.sorted()
	if len(order) == 0 {
		return 0, false
	}
	return order[0].due, true
}

func (p *plain) Len() int { return len(*p) }

// wantDue fails, if Due doesn't answer as told.
func wantDue(t *testing.T, x *Timers, key uint64, due int64, ok bool) {
	t.Helper()
	if got, is := x.Due(key); got != due || is != ok {
		t.Errorf("Due(%d): %d %v, not %d %v", key, got, is, due, ok)
	}
}

// wantNext fails, if Next doesn't answer as told.
func wantNext(t *testing.T, x *Timers, now int64, key uint64, ok bool) {
	t.Helper()
	if got, is := x.Next(now); got != key || is != ok {
		t.Errorf("Next(%d): %d %v, not %d %v", now, got, is, key, ok)
	}
}

// wantFirst fails, if First or Len doesn't answer as told.
func wantFirst(t *testing.T, x *Timers, due int64, ok bool, count int) {
	t.Helper()
	if got, is := x.First(); got != due || is != ok {
		t.Errorf("First: %d %v, not %d %v", got, is, due, ok)
	}
	if got := x.Len(); got != count {
		t.Errorf("Len: %d, not %d", got, count)
	}
}

// wantNone fails, if x has timers, or takes what isn't there for one.
func wantNone(t *testing.T, x *Timers) {
	t.Helper()
	wantFirst(t, x, 0, false, 0)
	for _, key := range keys {
		wantDue(t, x, key, 0, false)
		if x.Stop(key) {
			t.Error("Stop", key)
		}
	}
	for _, now := range dues {
		wantNext(t, x, now, 0, false)
	}
	wantFirst(t, x, 0, false, 0)
}

// wantAll fails, if x doesn't have just the timers of p.
func wantAll(t *testing.T, x *Timers, p *plain) {
	t.Helper()
	due, ok := p.First()
	wantFirst(t, x, due, ok, p.Len())
	for _, one := range *p {
		wantDue(t, x, one.key, one.due, true)
	}
}

// wantEmptied fails, if Next doesn't tell the timers of p one by one, in order.
func wantEmptied(t *testing.T, x *Timers, p *plain) {
	t.Helper()
	for i, one := range p.sorted() {
		wantFirst(t, x, one.due, true, p.Len()-i)
		if one.due > math.MinInt64 {
			wantNext(t, x, one.due-1, 0, false)
		}
		wantNext(t, x, one.due, one.key, true)
		wantDue(t, x, one.key, 0, false)
	}
	wantNone(t, x)
}

// made answers the Timers of p, set in the order of p.
func made(p *plain) *Timers {
	x := New()
	for _, one := range *p {
		x.Set(one.key, one.due)
	}
	return x
}

// P17.1: New has no timers, nor has the zero Timers; and timers can be set in both.
func TestNoTimers(t *testing.T) {
	var zero Timers
	for _, x := range []*Timers{New(), {}, &zero, new(Timers)} {
		if x == nil {
			t.Fatal("nil")
		}
		wantNone(t, x)
		x.Set(4, -6)
		wantFirst(t, x, -6, true, 1)
		wantDue(t, x, 4, -6, true)
		wantNext(t, x, -6, 4, true)
		wantNone(t, x)
	}
}

// P17.1: each New is one of its own.
func TestNewEach(t *testing.T) {
	x, y := New(), New()
	x.Set(1, 2)
	wantNone(t, y)
	y.Set(1, 3)
	wantDue(t, x, 1, 2, true)
	wantDue(t, y, 1, 3, true)
}

// P17.1: the chapter's example.
func TestExample(t *testing.T) {
	x := New()
	x.Set(5, 10)
	x.Set(3, 10)
	wantNext(t, x, 9, 0, false)
	wantNext(t, x, 10, 3, true)
	wantNext(t, x, 10, 5, true)
	wantNext(t, x, 10, 0, false)
	wantNone(t, x)
}

// P17.1: a timer that is set anew is due earlier, later or as before, once.
func TestSetAnew(t *testing.T) {
	for _, again := range []int64{math.MinInt64, -1, 0, 3, 9, 10, 11, 20, 21, math.MaxInt64} {
		x := New()
		x.Set(1, 10)
		x.Set(2, 5)
		x.Set(3, 20)
		x.Set(1, again)
		wantFirst(t, x, min(again, 5), true, 3)
		wantDue(t, x, 1, again, true)
		wantEmptied(t, x, &plain{{1, again}, {2, 5}, {3, 20}})
	}
}

// P17.1: the earliest timer set to be due later isn't the earliest any more, and
// one that is gone can be set anew.
func TestSetBehindAndBack(t *testing.T) {
	x := New()
	x.Set(1, 1)
	x.Set(2, 2)
	x.Set(1, 3)
	wantNext(t, x, 1, 0, false)
	wantNext(t, x, 2, 2, true)
	wantNext(t, x, 2, 0, false)
	wantNext(t, x, 3, 1, true)
	x.Set(1, 4)
	if !x.Stop(1) {
		t.Error("Stop")
	}
	x.Set(1, 5)
	wantFirst(t, x, 5, true, 1)
	wantNext(t, x, 4, 0, false)
	wantNext(t, x, 5, 1, true)
	wantNone(t, x)
}

// P17.1: a timer that is stopped is gone, and it alone; stopped again, it isn't there.
func TestStop(t *testing.T) {
	list := plain{{0, 4}, {1, 2}, {6, 2}, {7, 9}, {1 << 63, 2}, {math.MaxUint64, -3}}
	for _, one := range list {
		x, p := made(&list), slices.Clone(list)
		p.Stop(one.key)
		for _, want := range []bool{true, false, false} {
			if x.Stop(one.key) != want {
				t.Error("Stop", one.key, want)
			}
			wantDue(t, x, one.key, 0, false)
			wantAll(t, x, &p)
		}
		wantEmptied(t, x, &p)
	}
}

// P17.1: stopping what isn't there, be it as near as can be to what is, changes nothing.
func TestStopOthers(t *testing.T) {
	list := plain{{4, 4}, {5, 2}, {12, 2}, {1 << 40, 9}}
	x := made(&list)
	for _, key := range []uint64{0, 1, 2, 3, 6, 7, 8, 11, 13, 14, 20, 1<<40 - 1, 1<<40 + 1, 1<<40 + 4, 1<<40 + 5, 1 << 41, 1<<63 + 4, math.MaxUint64} {
		if x.Stop(key) {
			t.Error("Stop", key)
		}
		wantDue(t, x, key, 0, false)
		wantAll(t, x, &list)
	}
	wantEmptied(t, x, &list)
}

// P17.1: Next just ahead of, at and just behind when the earliest one is due.
func TestNextAbout(t *testing.T) {
	for _, due := range dues {
		for _, past := range []int64{0, 1} {
			if due == math.MaxInt64 && past == 1 {
				continue
			}
			x := New()
			x.Set(8, due)
			x.Set(9, math.MaxInt64)
			if due > math.MinInt64 {
				wantNext(t, x, due-1, 0, false)
				wantNext(t, x, math.MinInt64, 0, false)
			}
			wantFirst(t, x, due, true, 2)
			wantNext(t, x, due+past, 8, true)
			wantFirst(t, x, math.MaxInt64, true, 1)
			wantDue(t, x, 8, 0, false)
			wantDue(t, x, 9, math.MaxInt64, true)
		}
	}
}

// P17.1: of those due at now or earlier the earliest one, be its key greater or not;
// those due later stay.
func TestNextEarliest(t *testing.T) {
	x := New()
	x.Set(1, 30)
	x.Set(2, 20)
	x.Set(3, 10)
	x.Set(4, 25)
	wantNext(t, x, 25, 3, true)
	wantNext(t, x, 25, 2, true)
	wantNext(t, x, 25, 4, true)
	wantNext(t, x, 25, 0, false)
	wantFirst(t, x, 30, true, 1)
	wantNext(t, x, 100, 1, true)
	wantNone(t, x)
}

// P17.1: those due alike come by their keys, set in any order of these.
func TestAlike(t *testing.T) {
	for _, list := range [][]uint64{{0, 1, 2, 3}, {0, 1, 1 << 63, math.MaxUint64}, {7, 8, 9, 1 << 33}, {1<<63 - 1, 1 << 63, 1<<63 + 1, math.MaxUint64}} {
		orders(list, 0, func(order []uint64) {
			for _, due := range []int64{math.MinInt64, -1, 0, 10, math.MaxInt64} {
				x := New()
				var p plain
				for _, key := range order {
					x.Set(key, due)
					p.Set(key, due)
				}
				for _, key := range list {
					wantFirst(t, x, due, true, p.Len())
					wantNext(t, x, due, key, true)
					p.Stop(key)
					wantAll(t, x, &p)
				}
				wantNone(t, x)
			}
		})
	}
}

// orders does do with list in each of its orders, of which the first at stay.
func orders(list []uint64, at int, do func([]uint64)) {
	if at == len(list) {
		do(list)
		return
	}
	list = slices.Clone(list)
	for i := at; i < len(list); i++ {
		list[at], list[i] = list[i], list[at]
		orders(list, at+1, do)
	}
}

// P17.1: keys and times at all edges, each with each.
func TestEdges(t *testing.T) {
	for i := range keys {
		var list plain
		for k, key := range keys {
			list = append(list, timer{key, dues[(i+k*5)%len(dues)]})
		}
		x := made(&list)
		wantAll(t, x, &list)
		wantEmptied(t, x, &list)
	}
	for _, key := range keys {
		for _, due := range dues {
			one := plain{{key, due}}
			wantEmptied(t, made(&one), &one)
		}
	}
}

// P17.1: keys that differ in just one bit, each with each other.
func TestBits(t *testing.T) {
	for bit := range 64 {
		for _, key := range []uint64{0, math.MaxUint64, 0x5555555555555555, 1 << 63} {
			list := plain{{key, 2}, {key ^ 1<<bit, 1}, {key ^ bits.RotateLeft64(3, bit), 2}}
			wantAll(t, made(&list), &list)
			wantEmptied(t, made(&list), &list)
		}
	}
}

// play sets, stops and asks, as numbers tell, and holds the answers against a plain list.
func play(t *testing.T, x *Timers, p *plain, number func(int) int) {
	t.Helper()
	key := func() uint64 {
		if number(2) == 0 {
			return keys[number(len(keys))]
		}
		return uint64(number(24))
	}
	due := func() int64 {
		if number(3) == 0 {
			return dues[number(len(dues))]
		}
		return int64(number(16)) - 8
	}
	switch number(8) {
	case 0, 1, 2, 3:
		k, d := key(), due()
		x.Set(k, d)
		p.Set(k, d)
	case 4:
		k := key()
		if got, want := x.Stop(k), p.Stop(k); got != want {
			t.Fatal("Stop", k, got, want)
		}
	case 5, 6:
		now := due()
		got, ok := x.Next(now)
		if want, is := p.Next(now); got != want || ok != is {
			t.Fatal("Next", now, got, ok, want, is)
		}
	}
	k := key()
	want, is := p.Due(k)
	wantDue(t, x, k, want, is)
	want, is = p.First()
	wantFirst(t, x, want, is, p.Len())
}

// P17.1: many sets, stops and nexts in any order, held against a plain list.
func TestMany(t *testing.T) {
	for seed := range int64(60) {
		r := rand.New(rand.NewSource(seed))
		x, p := &Timers{}, &plain{}
		for range 600 {
			play(t, x, p, r.Intn)
		}
		wantAll(t, x, p)
		wantEmptied(t, x, p)
	}
}

// P17.1: any keys and any times.
func TestAny(t *testing.T) {
	for seed := range int64(60) {
		r := rand.New(rand.NewSource(seed))
		x, p := New(), &plain{}
		for range 100 {
			key, due := r.Uint64()>>r.Intn(64), int64(r.Uint64())>>r.Intn(64)
			x.Set(key, due)
			p.Set(key, due)
			if r.Intn(3) == 0 {
				gone := (*p)[r.Intn(p.Len())].key
				if !x.Stop(gone) || !p.Stop(gone) {
					t.Fatal("Stop", gone)
				}
			}
		}
		wantAll(t, x, p)
		wantEmptied(t, x, p)
	}
}

// P17.1: as many timers as there may be, in no long time, whatever their keys' order.
func TestVeryMany(t *testing.T) {
	const count = 1 << 17
	for _, step := range []uint64{1, math.MaxUint64, 1 << 47, 0x9e3779b97f4a7c15} {
		x := New()
		for i := range uint64(count) {
			x.Set(i*step, int64(i%7))
		}
		wantFirst(t, x, 0, true, count)
		for i := range uint64(count) {
			x.Set(i*step, -int64(i))
		}
		wantFirst(t, x, 1-count, true, count)
		for i := uint64(count); i > 0; i -= 2 {
			wantNext(t, x, 0, (i-1)*step, true)
			if !x.Stop((i - 2) * step) {
				t.Fatal("Stop", i)
			}
		}
		wantNone(t, x)
	}
}

// P17.1, R1: a nil object answers zero for everything.
func TestNil(t *testing.T) {
	var x *Timers
	wantNone(t, x)
	x.Set(1, -5)
	x.Set(0, math.MinInt64)
	wantNone(t, x)
}

// R2: what it answers depends on the object's history alone: twice the same, and
// not on what is set in others between.
func TestSameAgain(t *testing.T) {
	history := func(beside *Timers) (answers []timer) {
		r := rand.New(rand.NewSource(17))
		x := New()
		for range 500 {
			x.Set(uint64(r.Intn(60)), int64(r.Intn(20)))
			if beside != nil {
				beside.Set(uint64(len(answers)), math.MinInt64)
				beside.Next(math.MaxInt64)
			}
			if r.Intn(2) == 0 {
				key, ok := x.Next(int64(r.Intn(20)))
				if !ok && key != 0 {
					t.Error(key)
				}
				answers = append(answers, timer{key, int64(x.Len())})
			}
		}
		return answers
	}
	want := history(nil)
	if !slices.Equal(history(nil), want) || !slices.Equal(history(New()), want) {
		t.Error("not the same again")
	}
}

// R2: asking changes nothing.
func TestAskingChangesNothing(t *testing.T) {
	list := plain{{3, 10}, {5, 10}, {0, 12}}
	x := made(&list)
	for range 3 {
		wantAll(t, x, &list)
		wantNext(t, x, 9, 0, false)
		wantDue(t, x, 4, 0, false)
	}
	wantEmptied(t, x, &list)
}

// R1, R2: a copy of a Timers is one of its own: what is done to one of them doesn't
// touch the other.
func TestCopies(t *testing.T) {
	for seed := range int64(40) {
		r := rand.New(rand.NewSource(seed))
		x, p := New(), &plain{}
		for range r.Intn(40) {
			play(t, x, p, r.Intn)
		}
		y, q := *x, slices.Clone(*p)
		for range 40 {
			play(t, x, p, r.Intn)
			play(t, &y, &q, r.Intn)
		}
		wantEmptied(t, x, p)
		wantEmptied(t, &y, &q)
	}
}

// P17.1: of timers that are gone, or set anew, nothing is kept.
func TestNothingKept(t *testing.T) {
	x := New()
	x.Set(1, 1)
	before := inUse()
	for i := range uint64(1 << 16) {
		x.Set(i<<8+2, int64(i))
	}
	for i := range uint64(1 << 16) {
		x.Set(0, -int64(i))
		x.Stop(i<<8 + 2)
	}
	x.Stop(0)
	if grown := inUse() - before; grown > 1<<20 {
		t.Error(grown)
	}
	wantFirst(t, x, 1, true, 1)
}

// inUse answers how many bytes are in use.
func inUse() int64 {
	runtime.GC()
	runtime.GC()
	var stats runtime.MemStats
	runtime.ReadMemStats(&stats)
	return int64(stats.HeapAlloc)
}

// P17.1, R1: whatever is set, stopped and asked for.
func FuzzAll(f *testing.F) {
	f.Add([]byte("set some, stop some, and then all that are due"))
	f.Add(binary.LittleEndian.AppendUint64(nil, math.MaxUint64))
	f.Fuzz(func(t *testing.T, b []byte) {
		x, p := &Timers{}, &plain{}
		number := func(n int) int {
			if len(b) == 0 {
				return 0
			}
			first := int(b[0])
			b = b[1:]
			return first % n
		}
		for len(b) > 0 {
			play(t, x, p, number)
		}
		wantEmptied(t, x, p)
	})
}
