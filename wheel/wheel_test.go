package wheel_test

import (
	"math"
	"math/rand"
	"slices"
	"sort"
	"testing"

	"outrider/api"
	"outrider/wheel"
)

// The greatest id and the greatest time, as the document says them.
const (
	last  = 65535
	clock = 1 << 40
)

// plain is a plain reading of the chapter: it keeps no order and no slots, and goes through all that
// is set whenever it is asked.
type plain struct {
	now   int
	times map[int]int
}

func (p *plain) set(id, at int) bool {
	if id < 0 || id > last || at < 0 || at > clock {
		return false
	}
	p.times[id] = at
	return true
}

func (p *plain) cancel(id int) bool {
	_, is := p.times[id]
	delete(p.times, id)
	return is
}

func (p *plain) move(now int) []int {
	if now < p.now || now > clock {
		return nil
	}
	p.now = now
	var due [][2]int
	for id, at := range p.times {
		if at <= now {
			due = append(due, [2]int{at, id})
		}
	}
	sort.Slice(due, func(one, other int) bool {
		if due[one][0] != due[other][0] {
			return due[one][0] < due[other][0]
		}
		return due[one][1] < due[other][1]
	})
	var told []int
	for _, d := range due {
		told = append(told, d[1])
		delete(p.times, d[1])
	}
	return told
}

func (p *plain) next() (int, bool) {
	least, is := 0, false
	for _, at := range p.times {
		if !is || at < least {
			least, is = at, true
		}
	}
	return least, is
}

// watched is a wheel beside the plain reading. Behind each call all is asked of both: Now, Len, Next,
// and When of the ids that are asked.
type watched struct {
	t     *testing.T
	what  string
	w     *wheel.Wheel
	p     plain
	asked []int
	calls int
}

// The ids that no wheel takes, and those at the edges that it takes.
var (
	wrongIds = []int{-1, 65536, -65536, 65537, 131071, 1 << 32, 1<<32 + 1, math.MinInt, math.MaxInt}
	edgeIds  = []int{0, 1, 65534, 65535}
)

func watch(t *testing.T, what string, ids ...int) *watched {
	b := &watched{t: t, what: what, w: wheel.New(), p: plain{times: map[int]int{}}}
	b.asked = slices.Concat(ids, wrongIds, edgeIds)
	b.look("New")
	return b
}

func (b *watched) look(call string, args ...int) {
	b.t.Helper()
	b.calls++
	if now := b.w.Now(); now != b.p.now {
		b.t.Fatalf("P9.1: %s: call %d, %s%v: Now is %d, not %d", b.what, b.calls, call, args, now, b.p.now)
	}
	if many := b.w.Len(); many != len(b.p.times) {
		b.t.Fatalf("P9.1: %s: call %d, %s%v: Len is %d, not %d", b.what, b.calls, call, args, many, len(b.p.times))
	}
	at, is := b.w.Next()
	if want, wanted := b.p.next(); at != want || is != wanted {
		b.t.Fatalf("P9.1: %s: call %d, %s%v: Next is %d %v, not %d %v", b.what, b.calls, call, args, at, is, want, wanted)
	}
	for _, id := range b.asked {
		at, is := b.w.When(id)
		if want, wanted := b.p.times[id]; at != want || is != wanted {
			b.t.Fatalf("P9.1: %s: call %d, %s%v: When(%d) is %d %v, not %d %v", b.what, b.calls, call, args, id, at, is, want, wanted)
		}
	}
}

func (b *watched) set(id, at int) {
	b.t.Helper()
	if is, want := b.w.Set(id, at), b.p.set(id, at); is != want {
		b.t.Fatalf("P9.1: %s: Set(%d, %d) is %v, not %v", b.what, id, at, is, want)
	}
	b.look("Set", id, at)
}

func (b *watched) cancel(id int) {
	b.t.Helper()
	if is, want := b.w.Cancel(id), b.p.cancel(id); is != want {
		b.t.Fatalf("P9.1: %s: Cancel(%d) is %v, not %v", b.what, id, is, want)
	}
	b.look("Cancel", id)
}

func (b *watched) move(now int) []int {
	b.t.Helper()
	told, want := b.w.Move(now), b.p.move(now)
	if !slices.Equal(told, want) {
		b.t.Fatalf("P9.2: %s: call %d, Move(%d) tells %v, not %v", b.what, b.calls, now, told, want)
	}
	b.look("Move", now)
	return told
}

// A call is one to Set, Cancel or Move, with what it must answer, and Len and Next behind it.
type call struct {
	name   string
	id, at int
	is     bool
	told   []int
	many   int
	next   int
	some   bool
}

func (c call) make(t *testing.T, what string, k int, w *wheel.Wheel) {
	t.Helper()
	switch c.name {
	case "set":
		if is := w.Set(c.id, c.at); is != c.is {
			t.Errorf("P9.1: %s: call %d: Set is %v", what, k, is)
		}
	case "cancel":
		if is := w.Cancel(c.id); is != c.is {
			t.Errorf("P9.1: %s: call %d: Cancel is %v", what, k, is)
		}
	default:
		if told := w.Move(c.at); !slices.Equal(told, c.told) {
			t.Errorf("P9.2: %s: call %d: Move tells %v, not %v", what, k, told, c.told)
		}
	}
	next, is := w.Next()
	if w.Len() != c.many || next != c.next || is != c.some {
		t.Errorf("P9.1: %s: call %d: Len is %d and Next is %d %v", what, k, w.Len(), next, is)
	}
}

func set(id, at, many, next int) call {
	return call{name: "set", id: id, at: at, is: true, many: many, next: next, some: true}
}

func move(at, many, next int, told ...int) call {
	return call{name: "move", at: at, told: told, many: many, next: next, some: many > 0}
}

func cancel(id int, is bool, many, next int) call {
	return call{name: "cancel", id: id, is: is, many: many, next: next, some: many > 0}
}

// TestByHand is of answers that were worked out by hand; the first two are the chapter's examples.
func TestByHand(t *testing.T) {
	for _, x := range []struct {
		what  string
		calls []call
	}{
		{"three timers", []call{set(7, 5, 1, 5), set(3, 5, 2, 5), set(9, 2, 3, 2), move(4, 2, 5, 9), move(100, 0, 0, 3, 7)}},
		{"one timer", []call{set(1, 50, 1, 50), move(200, 0, 0, 1)}},
		{"one by one", []call{set(1, 2, 1, 2), move(1, 1, 2), move(2, 0, 0, 1), move(3, 0, 0)}},
		{"due at 0", []call{set(4, 0, 1, 0), move(0, 0, 0, 4), move(0, 0, 0)}},
		{"behind and ahead", []call{move(70, 0, 0), set(1, 69, 1, 69), set(2, 70, 2, 69), set(3, 71, 3, 69), move(70, 1, 71, 1, 2), move(71, 0, 0, 3)}},
		{"behind, and the time goes on", []call{move(70, 0, 0), set(3, 71, 1, 71), set(2, 70, 2, 70), set(1, 69, 3, 69), set(0, 3, 4, 3), move(71, 0, 0, 0, 1, 2, 3)}},
		{"late ones by their own times", []call{move(500, 0, 0), set(1, 400, 1, 400), set(2, 300, 2, 300), set(3, 0, 3, 0), set(4, 499, 4, 0), move(500, 0, 0, 3, 2, 1, 4)}},
		{"falling ids of one time", []call{set(9, 80, 1, 80), set(8, 80, 2, 80), set(7, 80, 3, 80), set(8, 80, 3, 80), move(80, 0, 0, 7, 8, 9)}},
		{"one of two set anew", []call{set(9, 80, 1, 80), set(8, 80, 2, 80), set(8, 81, 2, 80), move(81, 0, 0, 9, 8)}},
		{"set anew, earlier", []call{set(1, 1000, 1, 1000), set(1, 10, 1, 10), move(10, 0, 0, 1), move(1000, 0, 0)}},
		{"set anew, later", []call{set(1, 10, 1, 10), set(1, 1000, 1, 1000), move(10, 1, 1000), move(999, 1, 1000), move(1000, 0, 0, 1)}},
		{"set anew, to the same", []call{set(1, 10, 1, 10), set(1, 10, 1, 10), move(10, 0, 0, 1), move(11, 0, 0)}},
		{"from far to near and back", []call{set(1, clock, 1, clock), set(1, 1, 1, 1), set(1, clock, 1, clock), move(1, 1, clock), move(clock-1, 1, clock), move(clock, 0, 0, 1)}},
		{"set again once told", []call{set(1, 5, 1, 5), move(5, 0, 0, 1), set(1, 5, 1, 5), move(5, 0, 0, 1), move(5, 0, 0)}},
		{"cancelled", []call{set(1, 5, 1, 5), set(2, 5, 2, 5), cancel(1, true, 1, 5), cancel(1, false, 1, 5), move(5, 0, 0, 2), cancel(2, false, 0, 0)}},
		{"the first cancelled", []call{set(1, 5, 1, 5), set(2, 6, 2, 5), cancel(1, true, 1, 6), cancel(2, true, 0, 0), move(9, 0, 0)}},
		{"cancelled, and set again", []call{set(1, 5, 1, 5), cancel(1, true, 0, 0), set(1, 7, 1, 7), move(6, 1, 7), move(7, 0, 0, 1)}},
		{"a refused Move", []call{move(50, 0, 0), set(1, 40, 1, 40), move(49, 1, 40), move(-1, 1, 40), move(clock+1, 1, 40), move(50, 0, 0, 1)}},
		{"the whole time at once", []call{set(5, clock, 1, clock), set(4, 0, 2, 0), set(3, clock-1, 3, 0), set(2, clock, 4, 0), move(clock, 0, 0, 4, 3, 2, 5), set(1, clock, 1, clock), set(0, 7, 2, 7), move(clock, 0, 0, 0, 1)}},
		{"past many rounds", []call{set(1, 3, 1, 3), set(2, 3+256, 2, 3), set(3, 3+512, 3, 3), set(4, 3+1<<20, 4, 3), move(3, 3, 259, 1), move(300, 2, 515, 2), move(1<<20, 1, 3+1<<20, 3), move(1<<30, 0, 0, 4)}},
	} {
		w := wheel.New()
		for k, c := range x.calls {
			c.make(t, x.what, k, w)
		}
	}
}

func TestNewHasNoTimer(t *testing.T) {
	b := watch(t, "a new one", 2, 7, 100, 1000)
	if b.w == nil || b.w.Now() != 0 || b.w.Len() != 0 {
		t.Fatal("P9.1: New")
	}
	for _, id := range b.asked {
		b.cancel(id)
	}
	if told := b.move(0); len(told) != 0 {
		t.Error("P9.2: a new one tells", told)
	}
	b.move(clock)
}

// TestRefused asks Set for what it takes no such timer of: nothing changes by it, whether that id is
// set or not.
func TestRefused(t *testing.T) {
	wrongTimes := []int{-1, clock + 1, -clock, 2 * clock, 1<<41 + 5, math.MinInt, math.MaxInt, math.MaxInt - 1}
	for _, now := range []int{0, 1, 64, 1 << 30, clock} {
		b := watch(t, "refused", 7)
		b.set(7, 5)
		b.set(0, clock)
		b.set(last, 0)
		b.move(now)
		b.set(7, now)
		for _, id := range []int{7, 8, 0, last} {
			for _, at := range wrongTimes {
				if b.w.Set(id, at) {
					t.Errorf("P9.1: Set(%d, %d) is not refused", id, at)
				}
				b.set(id, at)
			}
		}
		for _, id := range wrongIds {
			for _, at := range slices.Concat(wrongTimes, []int{0, 1, 5, now, clock}) {
				if b.w.Set(id, at) {
					t.Errorf("P9.1: Set(%d, %d) is not refused", id, at)
				}
				b.set(id, at)
			}
			b.cancel(id)
		}
		b.move(now)
		b.move(clock)
	}
}

// TestEdges sets the first and the last id to the first and the last time.
func TestEdges(t *testing.T) {
	for _, id := range edgeIds {
		for _, at := range []int{0, 1, clock - 1, clock} {
			b := watch(t, "edges")
			if !b.w.Set(id, at) {
				t.Errorf("P9.1: Set(%d, %d) is refused", id, at)
			}
			b.set(id, at)
			b.move(at - 1)
			if told := b.move(at); !slices.Equal(told, []int{id}) {
				t.Errorf("P9.2: %d at %d: %v", id, at, told)
			}
			b.move(at)
			b.move(clock)
		}
	}
}

// TestMoveRefused lets the time stand where it is.
func TestMoveRefused(t *testing.T) {
	for _, now := range []int{0, 1, 63, 64, 65, 255, 256, 4096, 1<<39 - 1, 1 << 39, clock - 1, clock} {
		b := watch(t, "a refused Move", 2, 3, 4)
		b.move(now)
		b.set(2, 0)
		b.set(3, now)
		b.set(4, clock)
		for _, wrong := range []int{now - 1, now - 64, now - 256, -1, -clock, clock + 1, clock + now + 1, 2 * clock, math.MinInt, math.MaxInt} {
			if told := b.w.Move(wrong); len(told) != 0 || b.w.Now() != now {
				t.Errorf("P9.2: at %d: Move(%d) tells %v, and the time is %d", now, wrong, told, b.w.Now())
			}
			b.move(wrong)
		}
		b.move(now)
		b.move(clock)
	}
}

// edgeTimes are those at which more digits of a number change than one, to whatever power of two it is
// taken.
func edgeTimes() []int {
	l := []int{0, 3, 100, 1000, 1000000, 1 << 39 * 3 / 2, clock - 100}
	for k := range 41 {
		l = append(l, 1<<k-1, 1<<k)
	}
	slices.Sort(l)
	return slices.Compact(l)
}

// TestFromAnyTimeToAnyOther sets a timer at each time of the edges to each other one, and moves to
// each one: it is told just where its time is not above.
func TestFromAnyTimeToAnyOther(t *testing.T) {
	l := edgeTimes()
	for _, from := range l {
		for _, at := range l {
			w := wheel.New()
			w.Move(from)
			w.Set(9, at)
			for _, to := range l {
				if to < from {
					continue
				}
				told, want := w.Move(to), at <= to
				next, is := w.Next()
				if w.Now() != to || is == want || is && next != at || w.Len() == 1 == want {
					t.Fatalf("P9.2: set at %d to %d: at %d it is %v that one is set, to %d", from, at, to, is, next)
				}
				if want && !slices.Equal(told, []int{9}) || !want && len(told) != 0 {
					t.Fatalf("P9.2: set at %d to %d: at %d: %v", from, at, to, told)
				}
				if want {
					break
				}
			}
		}
	}
}

// TestFromAnyTimeAtOnce is the same with one great Move, and with all of the times set at once.
func TestFromAnyTimeAtOnce(t *testing.T) {
	l := edgeTimes()
	for _, from := range l {
		for _, to := range l {
			b := watch(t, "from any time at once", 5, 6)
			b.move(from)
			for k, at := range l {
				b.w.Set(k, at)
				b.p.set(k, at)
			}
			b.look("Set")
			b.move(to)
			for k := range l {
				if k%3 == 0 {
					b.w.Cancel(k)
					b.p.cancel(k)
				}
			}
			b.look("Cancel")
			b.move(to)
			b.move(clock)
		}
	}
}

// TestSetAnewFromAnyTime sets a timer from each time of the edges to each other one.
func TestSetAnewFromAnyTime(t *testing.T) {
	l := edgeTimes()
	for _, now := range []int{0, 63, 64, 5000, 1 << 39} {
		for _, one := range l {
			for _, other := range l {
				b := watch(t, "set anew")
				b.p.move(now)
				b.w.Move(now)
				b.set(1, one)
				b.set(0, (one+other)/2)
				b.set(1, other)
				b.set(1, other)
				b.move(max(now, min(one, other)))
				b.move(max(now, one, other) - 1)
				b.move(max(now, one, other))
				b.cancel(1)
			}
		}
	}
}

// TestStepByStep sets timers to all of the first times, and goes on one by one, so that it comes past
// the end of any round there is.
func TestStepByStep(t *testing.T) {
	b := watch(t, "step by step", 10, 20, 30)
	for id := range 5000 {
		at := id * 7919 % 5000
		b.w.Set(id, at)
		b.p.set(id, at)
	}
	for now := range 5001 {
		told, want := b.w.Move(now), b.p.move(now)
		if !slices.Equal(told, want) || now < 5000 && len(told) != 1 {
			t.Fatalf("P9.2: at %d: %v, not %v", now, told, want)
		}
	}
	b.look("Move")
}

// TestTwoOfEachTime tells them by rising ids, in whichever order they were set.
func TestTwoOfEachTime(t *testing.T) {
	for _, at := range edgeTimes() {
		for _, ids := range [][]int{{1, 2}, {2, 1}, {0, last}, {last, 0}, {256, 255}, {300, 40}, {64, 63}, {last, last - 1}} {
			b := watch(t, "two of a time", ids...)
			b.set(ids[0], at)
			b.set(ids[1], at)
			rising := []int{min(ids[0], ids[1]), max(ids[0], ids[1])}
			b.set(ids[0], clock-at)
			b.set(ids[0], at)
			if told := b.move(at); !slices.Equal(told, rising) {
				t.Fatalf("P9.2: %v at %d: %v", ids, at, told)
			}
		}
	}
}

// script makes many calls of all kinds, with the ids that it is given: near to now and far from it,
// behind it, at the edges of rounds, and wrong ones.
func script(b *watched, r *rand.Rand, ids []int, many int) {
	for range many {
		id := ids[r.Intn(len(ids))]
		if r.Intn(40) == 0 {
			id = wrongIds[r.Intn(len(wrongIds))]
		}
		switch r.Intn(8) {
		case 0:
			b.cancel(id)
		case 1, 2:
			b.move(someTime(r, b.p.now))
		case 3:
			b.move(b.p.now + r.Intn(3))
		case 4:
			if at, is := b.p.next(); is {
				b.move(at - r.Intn(2))
			}
		default:
			b.set(id, someTime(r, b.p.now))
		}
	}
	b.move(clock)
}

func someTime(r *rand.Rand, now int) int {
	switch r.Intn(14) {
	case 0:
		return now
	case 1:
		return r.Intn(now + 1)
	case 2:
		return now - r.Intn(3)
	case 3:
		return []int{-1, clock + 1, math.MinInt, math.MaxInt, -now - 1}[r.Intn(5)]
	case 4:
		return now | (1<<r.Intn(30) - 1) // the end of a round
	case 5:
		return now | (1<<r.Intn(30) - 1) + 1
	case 6, 7:
		return now + 1 + r.Intn(1<<r.Intn(31))
	default:
		return now + r.Intn(1<<r.Intn(12))
	}
}

func TestScriptsOfFewIds(t *testing.T) {
	for seed := range 300 {
		r := rand.New(rand.NewSource(int64(seed)))
		ids := []int{0, last, 64, 63, 256, 1, 2}[:1+seed%7]
		script(watch(t, "few ids", ids...), r, ids, 200)
	}
}

func TestScriptsOfManyIds(t *testing.T) {
	for seed := range 6 {
		r := rand.New(rand.NewSource(int64(1000 + seed)))
		ids := r.Perm(last + 1)[:100*(1+seed)]
		script(watch(t, "many ids", ids...), r, ids, 3000)
	}
}

// TestScriptsFarOn begins where the time is great already.
func TestScriptsFarOn(t *testing.T) {
	for seed := range 60 {
		r := rand.New(rand.NewSource(int64(2000 + seed)))
		ids := []int{5, 4, 3, 2, 1, 0, last}
		b := watch(t, "far on", ids...)
		b.set(1, clock)
		b.move(clock - 1<<r.Intn(40) - r.Intn(100))
		script(b, r, ids, 200)
	}
}

// TestAllIds sets all of them, in three orders, and to times of four kinds.
func TestAllIds(t *testing.T) {
	r := rand.New(rand.NewSource(9))
	orders := []func(int) int{
		func(k int) int { return k },
		func(k int) int { return last - k },
		func(k int) int { return k * 40503 % (last + 1) },
	}
	times := []func(int) int{
		func(int) int { return 1 << 33 },
		func(id int) int { return id },
		func(id int) int { return clock - id/16 },
		func(int) int { return r.Intn(clock + 1) },
	}
	for o, order := range orders {
		for k, time := range times {
			b := watch(t, "all ids, in one of three orders", 77, 777, 7777)
			for at := range last + 1 {
				id := order(at)
				to := time(id)
				if !b.w.Set(id, to) || !b.p.set(id, to) || b.w.Len() != at+1 {
					t.Fatalf("P9.1: order %d, times %d: Set(%d, %d), and Len is %d", o, k, id, to, b.w.Len())
				}
			}
			b.look("Set")
			for id := range last + 1 {
				if at, is := b.w.When(id); at != b.p.times[id] || !is {
					t.Fatalf("P9.1: order %d, times %d: When(%d) is %d %v", o, k, id, at, is)
				}
			}
			b.set(last+1, 5)
			b.move(last / 2)
			b.cancel(last - 5)
			b.set(777, clock/2)
			b.move(clock / 3)
			b.move(clock - 2000)
			b.move(clock)
			if b.w.Len() != 0 {
				t.Errorf("P9.2: order %d, times %d: %d are left", o, k, b.w.Len())
			}
		}
	}
}

// laid is a wheel with so many timers, some of which are late.
func laid(seed int64, ids, most int) *wheel.Wheel {
	r := rand.New(rand.NewSource(seed))
	w := wheel.New()
	w.Move(r.Intn(most))
	for range ids {
		w.Set(r.Intn(last+1), r.Intn(most))
	}
	return w
}

// TestSmallMovesAsOneGreat moves to the same time by one step and by many: the same timers are told,
// in the same order, and each one once.
func TestSmallMovesAsOneGreat(t *testing.T) {
	for seed := range int64(60) {
		most := []int{50, 300, 5000, 70000, 1 << 30, clock}[seed%6]
		r := rand.New(rand.NewSource(seed))
		great, small := laid(seed, 200, most), laid(seed, 200, most)
		many := great.Len()
		want := great.Move(most)
		step := max(1, most/(1+r.Intn(3000)))
		var told []int
		for small.Now() < most {
			told = append(told, small.Move(min(most, small.Now()+r.Intn(step+1)))...)
		}
		told = append(told, small.Move(most)...)
		if !slices.Equal(told, want) {
			t.Fatalf("P9.3: seed %d: in small Moves %v, in a great one %v", seed, told, want)
		}
		once := slices.Compact(slices.Sorted(slices.Values(told)))
		if len(told) != many || len(once) != many || small.Len() != 0 || great.Len() != 0 {
			t.Fatalf("P9.3: seed %d: of %d are told %d, which are %d", seed, many, len(told), len(once))
		}
	}
}

// TestEachStepAsOneGreat is the same by steps of one.
func TestEachStepAsOneGreat(t *testing.T) {
	for seed := range int64(8) {
		most := 20000
		great, small := laid(seed, 2000, most), laid(seed, 2000, most)
		want := great.Move(most)
		var told []int
		for now := small.Now(); now <= most; now++ {
			told = append(told, small.Move(now)...)
		}
		if !slices.Equal(told, want) || len(small.Move(most)) != 0 || small.Len() != 0 {
			t.Fatalf("P9.3: seed %d: step by step %v, in a great one %v", seed, told, want)
		}
	}
}

// TestFirstMoveTells has one timer, and Moves that come to its time, past it, or just not there.
func TestFirstMoveTells(t *testing.T) {
	r := rand.New(rand.NewSource(5))
	for range 3000 {
		w := wheel.New()
		at := r.Intn(1 << r.Intn(41))
		w.Set(3, at)
		times := 0
		for w.Now() < clock {
			to := min(clock, someTime(r, w.Now()))
			before := w.Now()
			told := w.Move(to)
			first := w.Now() >= at && times == 0 && to >= before
			if first != slices.Equal(told, []int{3}) || !first && len(told) != 0 {
				t.Fatalf("P9.3: set to %d: from %d to %d tells %v", at, before, to, told)
			}
			times += len(told)
			if times > 0 && r.Intn(10) == 0 {
				break
			}
		}
		if told := w.Move(clock); times != 1 || len(told) != 0 {
			t.Fatalf("P9.3: set to %d: told %d times", at, times)
		}
	}
}

// TestSideBySide makes the calls of two scripts by turns: each wheel has its own timers and time.
func TestSideBySide(t *testing.T) {
	one, other := watch(t, "one of two", 1, 2, 3), watch(t, "the other of two", 1, 2, 3)
	r := rand.New(rand.NewSource(3))
	for range 500 {
		called, left := one, other
		if r.Intn(2) == 0 {
			called, left = other, one
		}
		called.set(r.Intn(4), someTime(r, called.p.now))
		left.look("Set of the other one")
		called.move(called.p.now + r.Intn(40))
		left.look("Move of the other one")
		called.cancel(r.Intn(4))
		left.look("Cancel of the other one")
	}
}

// TestToldIsTheCallers writes into what Move told, and behind it.
func TestToldIsTheCallers(t *testing.T) {
	b := watch(t, "written into", 2, 3, 5, 40)
	for now := 20; now < 400; now += 10 {
		for id := range 50 {
			b.set(id, now-id%15)
		}
		told := b.move(now)
		again := slices.Clone(told)
		for k := range told {
			told[k] = 60000 + k
		}
		_ = append(told, 1, 2, 3)
		for id := range 50 {
			b.set(id, now+id%15)
		}
		behind := b.move(now + 5)
		for k := range told {
			if told[k] != 60000+k {
				t.Fatalf("P9.2: at %d: a later call changed what was told", now)
			}
		}
		if len(again) != 50 || len(behind) == 0 {
			t.Fatalf("P9.2: at %d: %v, then %v", now, again, behind)
		}
	}
}

// answers are all that a script of calls is told.
func answers(seed int64) []int {
	r := rand.New(rand.NewSource(seed))
	w := wheel.New()
	var l []int
	for range 2000 {
		id, at := r.Intn(300), someTime(r, w.Now())
		switch r.Intn(6) {
		case 0:
			l = append(l, w.Move(w.Now()+r.Intn(200))...)
		case 1:
			w.Cancel(id)
		default:
			w.Set(id, at)
		}
		next, _ := w.Next()
		when, _ := w.When(id)
		l = append(l, w.Now(), w.Len(), next, when)
	}
	return append(l, w.Move(clock)...)
}

func TestSameCallsTellTheSame(t *testing.T) {
	for seed := range int64(5) {
		first := answers(seed)
		for range 3 {
			if !slices.Equal(answers(seed), first) {
				t.Fatalf("P9.2: seed %d: the same calls tell something else", seed)
			}
		}
	}
}

// TestAskingChangesNothing asks each thing twice, and ahead of a Move that tells all.
func TestAskingChangesNothing(t *testing.T) {
	one, other := laid(1, 100, 5000), laid(1, 100, 5000)
	for id := -2; id <= last+2; id++ {
		one.When(id)
		one.Next()
		one.Len()
		one.Now()
	}
	if one.Len() != other.Len() || one.Now() != other.Now() || !slices.Equal(one.Move(clock), other.Move(clock)) {
		t.Error("P9.1: asking changed something")
	}
}

func TestLimitIsTheDocuments(t *testing.T) {
	if clock != api.MaxClock {
		t.Error("P9.1: MaxClock")
	}
}
