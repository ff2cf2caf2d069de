package health_test

import (
	"math"
	"math/rand"
	"slices"
	"strings"
	"testing"

	"outrider/api"
	"outrider/health"
)

// The limits, as the document says them.
const (
	backends = 16
	clock    = 1 << 40
	lastNow  = clock - 10000
)

// What no call takes, and far from what one takes.
var far = []int{math.MinInt, math.MinInt + 1, -1 << 41, -1 << 32, -1<<32 + 1, -10000, -256, -20, -2, 10002, 1 << 16, 1<<31 - 1, 1 << 31, 1 << 32, 1<<32 + 1, 1<<32 + 16, 1 << 41, math.MaxInt - 1, math.MaxInt}

// plain is a plain reading of what a probe promises. It counts nothing: it keeps what was told since the
// last change as a text ('g' is a good one), and looks at its end.
type plain struct {
	rule health.Rule
	up   bool
	told string
}

// run is how many at the end of the text are against who is up, or down.
func (p *plain) run() int {
	against := "g"
	if p.up {
		against = "b"
	}
	return len(p.told) - len(strings.TrimRight(p.told, against))
}

func (p *plain) tell(good bool) bool {
	p.told += map[bool]string{true: "g", false: "b"}[good]
	most := map[bool]int{true: p.rule.Fall, false: p.rule.Rise}[p.up]
	if p.run() == most {
		p.up, p.told = !p.up, ""
		return true
	}
	return false
}

// watched is a probe beside the plain reading. Behind each call all is asked of both.
type watched struct {
	t     *testing.T
	p     *health.Probe
	plain plain
	calls string
}

func watch(t *testing.T, r health.Rule, up bool) *watched {
	t.Helper()
	p, errno := health.New(r, up)
	if errno != api.OK || p == nil {
		t.Fatalf("P11.1: New(%v, %v) tells %d", r, up, errno)
	}
	w := &watched{t: t, p: p, plain: plain{rule: r, up: up}}
	w.look()
	return w
}

func (w *watched) look() {
	w.t.Helper()
	for range 2 {
		if w.p.Up() != w.plain.up || w.p.Run() != w.plain.run() {
			w.t.Fatalf("P11.1: %v: behind %q: Up is %v and Run %d, not %v and %d", w.plain.rule, w.calls, w.p.Up(), w.p.Run(), w.plain.up, w.plain.run())
		}
	}
}

func (w *watched) tell(good bool) bool {
	w.t.Helper()
	w.calls += map[bool]string{true: "g", false: "b"}[good]
	changed, want := w.p.Tell(good), w.plain.tell(good)
	if changed != want {
		w.t.Fatalf("P11.1: %v: behind %q: Tell tells %v", w.plain.rule, w.calls, changed)
	}
	w.look()
	return changed
}

func (w *watched) tells(good bool, many int) {
	w.t.Helper()
	for range many {
		w.tell(good)
	}
}

// board is a plain reading of what a board promises: plain probes, and for each one the time at which
// it is due. What is due is looked for one by one, the first of all that are left.
type board struct {
	every, last int
	probes      []plain
	due         []int
}

func lay(r health.Rule, many int) *board {
	b := &board{every: r.Every}
	for k := range many {
		b.probes = append(b.probes, plain{rule: r})
		b.due = append(b.due, k+1)
	}
	return b
}

func (b *board) tell(k int, good bool) (changed, is bool) {
	for at := range b.probes {
		if at == k {
			return b.probes[at].tell(good), true
		}
	}
	return false, false
}

func (b *board) up() []bool {
	var up []bool
	for _, p := range b.probes {
		up = append(up, p.up)
	}
	return up
}

func (b *board) move(now int) []int {
	if now < b.last || now > lastNow {
		return nil
	}
	b.last = now
	var told []int
	for {
		first := -1
		for k, at := range b.due {
			if at <= now && (first < 0 || at < b.due[first]) {
				first = k
			}
		}
		if first < 0 {
			return told
		}
		told = append(told, first)
		b.due[first] = now + b.every
	}
}

// twin is a board beside the plain reading.
type twin struct {
	t     *testing.T
	b     *health.Board
	plain *board
	calls int
}

func beside(t *testing.T, r health.Rule, many int) *twin {
	t.Helper()
	b, errno := health.Lay(r, many)
	if errno != api.OK || b == nil {
		t.Fatalf("P11.2: Lay(%v, %d) tells %d", r, many, errno)
	}
	w := &twin{t: t, b: b, plain: lay(r, many)}
	w.look()
	return w
}

func (w *twin) look() {
	w.t.Helper()
	if up, want := w.b.Up(), w.plain.up(); !slices.Equal(up, want) {
		w.t.Fatalf("P11.2: behind call %d: Up tells %v, not %v", w.calls, up, want)
	}
}

func (w *twin) tell(k int, good bool) {
	w.t.Helper()
	w.calls++
	changed, is := w.b.Tell(k, good)
	if want, wanted := w.plain.tell(k, good); changed != want || is != wanted {
		w.t.Fatalf("P11.2: call %d: Tell(%d, %v) tells %v and %v, not %v and %v", w.calls, k, good, changed, is, want, wanted)
	}
	w.look()
}

func (w *twin) move(now int) []int {
	w.t.Helper()
	w.calls++
	told, want := w.b.Move(now), w.plain.move(now)
	if !slices.Equal(told, want) {
		w.t.Fatalf("P11.2: call %d: Move(%d) tells %v, not %v", w.calls, now, told, want)
	}
	w.look()
	return told
}

// span is the numbers from one up to, but without, another one.
func span(from, to int) []int {
	var l []int
	for k := from; k < to; k++ {
		l = append(l, k)
	}
	return l
}

// spelled is good and bad ones as they are written in a text: + is a good one, - a bad one.
func spelled(told string) []bool {
	var l []bool
	for _, c := range told {
		l = append(l, c == '+')
	}
	return l
}

func TestExamples(t *testing.T) {
	p, errno := health.New(health.Rule{Rise: 2, Fall: 3, Every: 10}, false)
	if errno != api.OK || p == nil || p.Up() || p.Run() != 0 {
		t.Fatal("P11.1: New", errno)
	}
	if p.Tell(true) || !p.Tell(true) || !p.Up() {
		t.Error("P11.1: two good ones, of which two let who is down be up")
	}
	if p.Tell(false) || p.Tell(false) || p.Run() != 2 || !p.Up() {
		t.Error("P11.1: two bad ones, of which three let who is up be down")
	}
	p, _ = health.New(health.Rule{Rise: 2, Fall: 3, Every: 10}, false)
	if p.Tell(false) || p.Tell(false) || p.Run() != 0 || p.Up() {
		t.Error("P11.1: bad ones of who is down are not counted")
	}
}

// TestByHand is of answers that were worked out by hand: what is told, who is up behind it (u is up),
// and how long the run is.
func TestByHand(t *testing.T) {
	for _, x := range []struct {
		rise, fall    int
		up            bool
		told, ups, is string
	}{
		{1, 1, false, "+++---++", "uuuddduu", "00000000"},
		{1, 1, true, "+++---+-+", "uuudddudu", "000000000"},
		{2, 3, false, "+-++--+---", "ddduuuuuud", "1010120120"},
		{2, 3, false, "++--", "duuu", "1012"},
		{2, 3, false, "--", "dd", "00"},
		{2, 3, true, "---++---", "uuddu" + "uud", "12010120"},
		{2, 3, true, "--+--+--+---", "uuuuuuuuuuud", "120120120120"},
		{3, 1, false, "++-++-+++-+++", "ddddddddudddu", "1201201200120"},
		{3, 1, true, "-++-+++", "ddddddu", "0120120"},
		{1, 3, false, "+--+---+", "uuuuuudu", "01201200"},
		{4, 2, true, "-+--+++-++++-", "uuudddddddduu", "1010123012301"},
		{2, 2, true, "-+-+-+--+-+-++", "uuuuuuudddddd" + "u", "10101010101010"},
		{20, 20, false, "+++++++++++++++++++-+++++++++", strings.Repeat("d", 29), "123456789abcdefghij0123456789"},
		{20, 20, false, "++++++++++++++++++++-----", strings.Repeat("d", 19) + "uuuuuu", "123456789abcdefghij012345"},
		{5, 20, true, "-------------------+", strings.Repeat("u", 20), "123456789abcdefghij0"},
		{5, 20, true, "--------------------+", strings.Repeat("u", 19) + "dd", "123456789abcdefghij01"},
	} {
		p, errno := health.New(health.Rule{Rise: x.rise, Fall: x.fall, Every: 1}, x.up)
		if errno != api.OK || p.Up() != x.up || p.Run() != 0 {
			t.Fatal("P11.1: New", x, errno)
		}
		ahead := x.up
		for at, good := range spelled(x.told) {
			changed, up := p.Tell(good), x.ups[at] == 'u'
			if changed != (up != ahead) || p.Up() != up || p.Run() != strings.IndexByte("0123456789abcdefghij", x.is[at]) {
				t.Errorf("P11.1: %d %d %v, %s: at %d it tells %v, Up is %v and Run %d", x.rise, x.fall, x.up, x.told, at, changed, p.Up(), p.Run())
			}
			ahead = up
		}
	}
}

// wrongRules are rules of which one number is amiss, or more than one are.
func wrongRules() []health.Rule {
	var l []health.Rule
	for _, n := range append([]int{-1, 0}, far...) {
		l = append(l, health.Rule{Rise: n, Fall: 2, Every: 10}, health.Rule{Rise: 2, Fall: n, Every: 10}, health.Rule{Rise: 2, Fall: 2, Every: n})
		l = append(l, health.Rule{Rise: n, Fall: n, Every: 10}, health.Rule{Rise: 2, Fall: n, Every: n}, health.Rule{Rise: n, Fall: 2, Every: n}, health.Rule{Rise: n, Fall: n, Every: n})
		l = append(l, health.Rule{Rise: n, Fall: 1, Every: 1}, health.Rule{Rise: 20, Fall: n, Every: 10000}, health.Rule{Rise: 1, Fall: 20, Every: n})
	}
	for _, n := range []int{21, 22, 255, 256, 257, 10000, 10001} {
		l = append(l, health.Rule{Rise: n, Fall: 20, Every: 10000}, health.Rule{Rise: 20, Fall: n, Every: 10000}, health.Rule{Rise: n, Fall: n, Every: 1})
	}
	return append(l, health.Rule{Rise: 20, Fall: 20, Every: 10001}, health.Rule{Rise: 1, Fall: 1, Every: 10001}, health.Rule{})
}

// rightRules are all those whose numbers are at the edges, or between them.
func rightRules() []health.Rule {
	var l []health.Rule
	for _, rise := range []int{1, 2, 10, 19, 20} {
		for _, fall := range []int{1, 2, 10, 19, 20} {
			for _, every := range []int{1, 2, 20, 21, 5000, 9999, 10000} {
				l = append(l, health.Rule{Rise: rise, Fall: fall, Every: every})
			}
		}
	}
	return l
}

func TestWrongRules(t *testing.T) {
	for _, r := range wrongRules() {
		for _, up := range []bool{false, true} {
			if p, errno := health.New(r, up); errno != api.ErrArg || p != nil {
				t.Errorf("P11.1: New(%v, %v) tells %v and %d", r, up, p, errno)
			}
		}
		for _, many := range []int{-1, 0, 1, 7, backends, backends + 1} {
			if b, errno := health.Lay(r, many); errno != api.ErrArg || b != nil {
				t.Errorf("P11.2: Lay(%v, %d) tells %v and %d", r, many, b, errno)
			}
		}
	}
}

func TestRightRules(t *testing.T) {
	for _, r := range rightRules() {
		for _, up := range []bool{false, true} {
			w := watch(t, r, up)
			if w.p.Up() != up || w.p.Run() != 0 {
				t.Errorf("P11.1: New(%v, %v): Up is %v and Run %d", r, up, w.p.Up(), w.p.Run())
			}
		}
		for _, many := range []int{1, 7, backends} {
			if b, errno := health.Lay(r, many); errno != api.OK || b == nil || len(b.Up()) != many {
				t.Errorf("P11.2: Lay(%v, %d) tells %d", r, many, errno)
			}
		}
	}
}

func TestMany(t *testing.T) {
	r := health.Rule{Rise: 1, Fall: 1, Every: 1}
	for _, many := range append([]int{-1, 0, backends + 1, backends + 2, 32, 255, 256, 257, 10000}, far...) {
		if b, errno := health.Lay(r, many); errno != api.ErrArg || b != nil {
			t.Errorf("P11.2: Lay of %d tells %v and %d", many, b, errno)
		}
	}
	for many := 1; many <= backends; many++ {
		b, errno := health.Lay(r, many)
		if errno != api.OK || !slices.Equal(b.Up(), make([]bool, many)) {
			t.Fatalf("P11.2: Lay of %d tells %d", many, errno)
		}
		if told := b.Move(lastNow); !slices.Equal(told, span(0, many)) {
			t.Errorf("P11.2: of %d: %v", many, told)
		}
	}
}

// TestEveryShortScript tells all that can be told in twelve calls, by rules that let some of them change
// it often.
func TestEveryShortScript(t *testing.T) {
	for n := range 1 << 12 {
		for _, r := range []health.Rule{{Rise: 1, Fall: 1, Every: 1}, {Rise: 1, Fall: 3, Every: 1}, {Rise: 2, Fall: 1, Every: 2}, {Rise: 2, Fall: 3, Every: 3}, {Rise: 4, Fall: 2, Every: 4}, {Rise: 5, Fall: 6, Every: 5}} {
			w := watch(t, r, n&1 == 1)
			for at := range 12 {
				w.tell(n>>at&1 == 1)
			}
		}
	}
}

// against tells a probe of who is up, or not, what is against it: so many times.
func against(p *health.Probe, many int) (changes int) {
	told := !p.Up()
	for range many {
		if p.Tell(told) {
			changes++
		}
	}
	return changes
}

// TestOneShort is of each Rise with each Fall: runs broken one short of enough, which begin anew, and
// runs that are just enough.
func TestOneShort(t *testing.T) {
	for rise := 1; rise <= 20; rise++ {
		for fall := 1; fall <= 20; fall++ {
			for _, up := range []bool{false, true} {
				p, _ := health.New(health.Rule{Rise: rise, Fall: fall, Every: 7}, up)
				is := up
				for round := range 4 {
					enough := rise
					if is {
						enough = fall
					}
					if against(p, enough-1) != 0 || p.Up() != is || p.Run() != enough-1 {
						t.Fatalf("P11.1: %d %d %v, round %d: one short: Up is %v and Run %d", rise, fall, up, round, p.Up(), p.Run())
					}
					if p.Tell(is) || p.Up() != is || p.Run() != 0 {
						t.Fatalf("P11.1: %d %d %v, round %d: broken: Up is %v and Run %d", rise, fall, up, round, p.Up(), p.Run())
					}
					if against(p, enough-1) != 0 || p.Up() != is || p.Run() != enough-1 || !p.Tell(!is) || p.Up() == is || p.Run() != 0 {
						t.Fatalf("P11.1: %d %d %v, round %d: enough: Up is %v and Run %d", rise, fall, up, round, p.Up(), p.Run())
					}
					is = !is
				}
			}
		}
	}
}

// known is 64 digits of pi, of sixteen, as bits, and what a reading in another language tells of them:
// where it changed, and how long the run was behind each of them.
const known = "243f6a8885a308d313198a2e03707344a4093822299f31d0082efa98ec4e6c89"

func knownBits() []bool {
	var l []bool
	for _, c := range known {
		n := strings.IndexRune("0123456789abcdef", c)
		for at := 3; at >= 0; at-- {
			l = append(l, n>>at&1 == 1)
		}
	}
	return l
}

func TestKnown(t *testing.T) {
	for _, x := range []struct {
		rise, fall int
		up         bool
		runs       string
		changes    []int
	}{
		{2, 1, false, "0010010000100000010010101000100010000101001000100000100010010010000100100001000100001010001010000000001001000000010000100100010010100100000010010010000000100010001010010001000000100001000100000000100000101000100000101001000010001000010010000100100010001001", []int{11, 16, 18, 19, 40, 41, 47, 48, 57, 58, 63, 64, 71, 72, 76, 77, 80, 81, 93, 95, 103, 104, 106, 108, 114, 116, 119, 120, 147, 149, 168, 169, 172, 176, 179, 180, 184, 186, 205, 207, 209, 213, 220, 221, 225, 227, 229, 230, 237, 239, 242, 243, 245, 246}},
		{2, 3, false, "0010010000100000100101010120100010000101010120101200100010101200120100101201012001201010001010012000001010001200010012001012010010100100000010010010012000100010001010010120000012001201001012000000100000101001000001010120012010010012010010012001001201201001", []int{11, 27, 40, 45, 47, 50, 57, 66, 71, 74, 76, 83, 93, 97, 103, 110, 114, 124, 147, 151, 168, 182, 184, 190, 205, 223, 225, 232, 237, 251}},
		{3, 3, true, "1201201200120000100101010120100010000101201000120000100012010012000100120001200120001010001012012000001201201200012012001012010010100100000010010012012000100010001010012001200012001201201012000000100000101201000001010120012012010012010012012001001201201001", []int{8, 12, 27, 94, 97, 107, 110, 115, 124, 148, 151, 173, 182, 185, 190, 206, 223, 226, 232, 238, 251}},
		{4, 2, false, "0010010000123000100101010100100010000101201000120000100012010012000100120001200120001010001012300000001201230000012300120100010010100100000010010012300000100010001010012001230010120001230100000000100000101230123001010101200012301200010012300120120010001001", []int{13, 26, 174, 177, 211, 218}},
		{5, 5, true, "1201201234000000100101010123012301234010010123001234012300101200123012001230012001230101230100012340001201230000012300120100010010100100000010010012300000100010001010012001234012001230001012340000100000101230123401010120012300010012301200012001001201230120", []int{99, 175, 192, 212}},
		{4, 20, false, "0010010000123000100101010123012301234010010123001234012300101200123012001230012001230101230100012345670010001234500012001012301201012012345601201200012345012301230101200120000012001230001012345678012345010001000001010120012300010012301200012001001201230120", []int{13}},
		{20, 3, true, "1201201200123456012010101000100010000101201000120000100012010012000100120001200120001010001012300000001201230000012300120100010010100100000010010012300000100010001010012001234500120001230100000000100000101230123450101001200012301200010012300120120010001001", []int{8}},
	} {
		p, _ := health.New(health.Rule{Rise: x.rise, Fall: x.fall, Every: 1}, x.up)
		var changes []int
		var runs strings.Builder
		for at, good := range knownBits() {
			if p.Tell(good) {
				changes = append(changes, at)
			}
			runs.WriteByte(byte('0' + p.Run()))
		}
		if !slices.Equal(changes, x.changes) {
			t.Errorf("P11.1: %d %d %v: it changes at %v, not %v", x.rise, x.fall, x.up, changes, x.changes)
		}
		if runs.String() != x.runs {
			t.Errorf("P11.1: %d %d %v: the runs are %s, not %s", x.rise, x.fall, x.up, runs.String(), x.runs)
		}
	}
}

// TestProbeScripts is of long scripts, by all kinds of rules; what is told comes in runs, so that each
// rule has some that are enough and some that are not.
func TestProbeScripts(t *testing.T) {
	chance := rand.New(rand.NewSource(11))
	for _, r := range rightRules() {
		w := watch(t, r, chance.Intn(2) == 1)
		for range 40 {
			most := max(r.Rise, r.Fall)
			if chance.Intn(2) == 1 {
				most = min(r.Rise, r.Fall)
			}
			w.tells(chance.Intn(2) == 1, chance.Intn(most+2))
			w.tell(w.p.Up())
			w.tells(!w.p.Up(), chance.Intn(most+2))
		}
	}
}

// TestBetweenChanges is P11.3's first half, of the answers alone.
func TestBetweenChanges(t *testing.T) {
	chance := rand.New(rand.NewSource(3))
	changes := 0
	for _, r := range rightRules() {
		p, _ := health.New(r, true)
		up, since := true, 0
		for range 600 {
			// Few of them break a run: else there is hardly ever one of 20.
			breaks := chance.Intn(2*max(r.Rise, r.Fall)) == 0
			since++
			if !p.Tell(p.Up() == breaks) {
				continue
			}
			least := r.Rise
			if up {
				least = r.Fall
			}
			if since < least {
				t.Errorf("P11.3: %v: %d Tells between two changes", r, since)
			}
			up, since, changes = !up, 0, changes+1
		}
		if p.Up() != up {
			t.Errorf("P11.3: %v: Up is %v, by what Tell told %v", r, p.Up(), up)
		}
	}
	if changes < 1000 {
		t.Errorf("P11.3: just %d changes, too few to tell", changes)
	}
}

// TestSameAgainAndAgain is P11.3's other half: at most one change, at the Tell that makes the run enough.
func TestSameAgainAndAgain(t *testing.T) {
	for _, r := range rightRules() {
		for _, up := range []bool{false, true} {
			for _, good := range []bool{false, true} {
				p, _ := health.New(r, up)
				at := 0 // at which it must change
				if good && !up {
					at = r.Rise
				}
				if !good && up {
					at = r.Fall
				}
				for n := 1; n <= 100; n++ {
					if p.Tell(good) != (n == at) {
						t.Errorf("P11.3: %v, %v: at the %d. of %v", r, up, n, good)
					}
				}
				if p.Up() != good || p.Run() != 0 {
					t.Errorf("P11.3: %v, %v: behind many of %v Up is %v and Run %d", r, up, good, p.Up(), p.Run())
				}
			}
		}
	}
}

// TestEveryIsNotCounted: how far probes lie from one another changes nothing in what one probe tells.
func TestEveryIsNotCounted(t *testing.T) {
	one, _ := health.New(health.Rule{Rise: 3, Fall: 2, Every: 1}, false)
	other, _ := health.New(health.Rule{Rise: 3, Fall: 2, Every: 10000}, false)
	for _, good := range knownBits() {
		if one.Tell(good) != other.Tell(good) || one.Up() != other.Up() || one.Run() != other.Run() {
			t.Fatal("P11.1: Every is to be seen in a probe")
		}
	}
}

func TestProbesSideBySide(t *testing.T) {
	r := health.Rule{Rise: 2, Fall: 2, Every: 5}
	one, other, third := watch(t, r, false), watch(t, r, false), watch(t, health.Rule{Rise: 3, Fall: 1, Every: 5}, true)
	r.Rise, r.Fall = 1, 1 // R6: a rule that was handed in is not kept
	chance := rand.New(rand.NewSource(5))
	for range 300 {
		one.tell(chance.Intn(3) > 0)
		other.tell(chance.Intn(3) == 0)
		third.tell(chance.Intn(2) == 0)
		one.look()
		other.look()
	}
}

// A step is a Move and what it must tell.
type step struct {
	now  int
	told []int
}

// TestMovesByHand is of answers that were worked out by hand.
func TestMovesByHand(t *testing.T) {
	for _, x := range []struct {
		what        string
		every, many int
		steps       []step
	}{
		{"each once, when it is due", 5, 3, []step{{0, nil}, {1, []int{0}}, {2, []int{1}}, {3, []int{2}}, {4, nil}, {5, nil}, {6, []int{0}}, {7, []int{1}}, {8, []int{2}}, {9, nil}, {11, []int{0}}}},
		{"two at once", 5, 3, []step{{0, nil}, {2, []int{0, 1}}, {2, nil}, {3, []int{2}}, {1, nil}, {7, []int{0, 1}}, {100, []int{2, 0, 1}}, {104, nil}, {105, []int{0, 1, 2}}, {clock, nil}}},
		{"each is due at now and Every, not at its time and Every", 10, 2, []step{{5, []int{0, 1}}, {11, nil}, {12, nil}, {14, nil}, {15, []int{0, 1}}, {40, []int{0, 1}}, {45, nil}, {49, nil}, {50, []int{0, 1}}}},
		{"once, however long it was", 1, 2, []step{{1, []int{0}}, {1000, []int{0, 1}}, {1000, nil}, {1001, []int{0, 1}}, {1001, nil}}},
		{"in turn, not by numbers", 3, 4, []step{{1, []int{0}}, {3, []int{1, 2}}, {4, []int{0, 3}}, {9, []int{1, 2, 0, 3}}, {12, []int{0, 1, 2, 3}}}},
		{"the greater number ahead", 100, 3, []step{{2, []int{0, 1}}, {50, []int{2}}, {102, []int{0, 1}}, {150, []int{2}}, {500, []int{0, 1, 2}}, {601, []int{0, 1, 2}}}},
		{"the last one ahead of the first ones", 2, 4, []step{{3, []int{0, 1, 2}}, {4, []int{3}}, {5, []int{0, 1, 2}}, {6, []int{3}}, {8, []int{0, 1, 2, 3}}}},
		{"one falls behind", 4, 2, []step{{1, []int{0}}, {4, []int{1}}, {8, []int{0, 1}}, {9, nil}, {12, []int{0, 1}}}},
		{"one falls behind, and stands ahead", 4, 3, []step{{1, []int{0}}, {2, []int{1}}, {6, []int{2, 0, 1}}, {10, []int{0, 1, 2}}}},
		{"one and the other in turn", 2, 2, []step{{1, []int{0}}, {2, []int{1}}, {3, []int{0}}, {4, []int{1}}, {5, []int{0}}, {7, []int{1, 0}}, {9, []int{0, 1}}}},
		{"the greatest Every", 10000, 2, []step{{1, []int{0}}, {10000, []int{1}}, {10001, []int{0}}, {19999, nil}, {20000, []int{1}}, {20001, []int{0}}, {lastNow, []int{1, 0}}, {lastNow, nil}, {lastNow + 1, nil}}},
		{"all of them at the last time", 1, backends, []step{{lastNow - 1, span(0, backends)}, {lastNow, span(0, backends)}, {lastNow, nil}, {lastNow + 1, nil}, {clock, nil}}},
		{"at the last time, at which they are due first", 7, 3, []step{{lastNow + 1, nil}, {lastNow, []int{0, 1, 2}}, {lastNow, nil}}},
	} {
		b, errno := health.Lay(health.Rule{Rise: 1, Fall: 1, Every: x.every}, x.many)
		if errno != api.OK {
			t.Fatal("P11.2: Lay", errno)
		}
		for at, s := range x.steps {
			if told := b.Move(s.now); !slices.Equal(told, s.told) {
				t.Errorf("P11.2: %s: Move %d, to %d, tells %v, not %v", x.what, at, s.now, told, s.told)
			}
		}
	}
}

// TestMovesKnown is of what a reading in another language tells.
func TestMovesKnown(t *testing.T) {
	times := []int{1, 1, 3, 4, 4, 9, 8, 9, 10, 12, 15, 15, 20, 21, 22, 30, 29, 31, 40, 41, 100, 101, 99, 150, lastNow, lastNow + 1, lastNow - 1, lastNow, clock}
	all := span(0, backends)
	for _, x := range []struct {
		many, every int
		told        [][]int
	}{
		{5, 7, [][]int{{0}, {}, {1, 2}, {3}, {}, {4, 0}, {}, {}, {1, 2}, {3}, {}, {}, {0, 4, 1, 2, 3}, {}, {}, {0, 1, 2, 3, 4}, {}, {}, {0, 1, 2, 3, 4}, {}, {0, 1, 2, 3, 4}, {}, {}, {0, 1, 2, 3, 4}, {0, 1, 2, 3, 4}, {}, {}, {}, {}}},
		{7, 10, [][]int{{0}, {}, {1, 2}, {3}, {}, {4, 5, 6}, {}, {}, {}, {0}, {1, 2, 3}, {}, {4, 5, 6}, {}, {0}, {1, 2, 3, 4, 5, 6}, {}, {}, {0, 1, 2, 3, 4, 5, 6}, {}, {0, 1, 2, 3, 4, 5, 6}, {}, {}, {0, 1, 2, 3, 4, 5, 6}, {0, 1, 2, 3, 4, 5, 6}, {}, {}, {}, {}}},
		{16, 4, [][]int{{0}, {}, {1, 2}, {3}, {}, {0, 4, 5, 1, 2, 6, 3, 7, 8}, {}, {}, {9}, {10, 11}, {0, 1, 2, 3, 4, 5, 6, 7, 8, 12, 9, 13, 14}, {}, {10, 11, 15, 0, 1, 2, 3, 4, 5, 6, 7, 8, 9, 12, 13, 14}, {}, {}, all, {}, {}, all, {}, all, {}, {}, all, all, {}, {}, {}, {}}},
		{16, 20, [][]int{{0}, {}, {1, 2}, {3}, {}, {4, 5, 6, 7, 8}, {}, {}, {9}, {10, 11}, {12, 13, 14}, {}, {15}, {0}, {}, {1, 2, 3, 4, 5, 6, 7, 8, 9}, {}, {}, {10, 11, 12, 13, 14, 15}, {0}, {1, 2, 3, 4, 5, 6, 7, 8, 9, 10, 11, 12, 13, 14, 15, 0}, {}, {}, all, all, {}, {}, {}, {}}},
	} {
		b, _ := health.Lay(health.Rule{Rise: 2, Fall: 2, Every: x.every}, x.many)
		for at, now := range times {
			if told := b.Move(now); !slices.Equal(told, x.told[at]) {
				t.Errorf("P11.2: %d probes, every %d: Move %d, to %d, tells %v, not %v", x.many, x.every, at, now, told, x.told[at])
			}
		}
	}
}

// TestDueFirst is of each number of probes, and of the first Move to each time: probe k is due first at
// k + 1, all of them in turn.
func TestDueFirst(t *testing.T) {
	for many := 1; many <= backends; many++ {
		for _, every := range []int{1, 3, 10000} {
			for first := range backends + 3 {
				w := beside(t, health.Rule{Rise: 1, Fall: 1, Every: every}, many)
				if told := w.move(first); !slices.Equal(told, span(0, min(first, many))) {
					t.Errorf("P11.2: the first Move of %d, to %d, tells %v", many, first, told)
				}
				w.move(first)
				for now := first + 1; now < first+40; now++ {
					w.move(now)
				}
			}
		}
	}
}

// TestMoveRefused: behind a Move that is refused all is due as before.
func TestMoveRefused(t *testing.T) {
	for _, every := range []int{1, 2, 7, 9999, 10000} {
		for _, now := range []int{0, 1, 2, 3, 17, 5000, 1 << 30, lastNow - 10001, lastNow - 10000, lastNow - 1, lastNow} {
			w := beside(t, health.Rule{Rise: 2, Fall: 3, Every: every}, 5)
			w.move(now - now/2)
			w.move(now)
			wrong := []int{now - 1, now - 2, now - 64, -1, -clock, lastNow + 1, lastNow + 2, lastNow + every + 1, clock - 1, clock, clock + 1, 1 << 41}
			for _, to := range append(wrong, math.MinInt, math.MaxInt) {
				if told := w.b.Move(to); len(told) != 0 {
					t.Errorf("P11.2: at %d: Move(%d) tells %v", now, to, told)
				}
				w.move(to)
			}
			w.move(now)
			for _, next := range []int{now + 1, now + 3, now + every - 1, now + every, now + 2*every, lastNow} {
				w.move(next)
			}
		}
	}
}

// TestMoveBelowFirst refuses a time below 0 when there was no Move yet.
func TestMoveBelowFirst(t *testing.T) {
	for _, to := range []int{-1, -2, -10000, -clock, math.MinInt, lastNow + 1, clock, math.MaxInt} {
		b, _ := health.Lay(health.Rule{Rise: 1, Fall: 1, Every: 1}, 2)
		if told := b.Move(to); len(told) != 0 {
			t.Errorf("P11.2: the first Move, to %d, tells %v", to, told)
		}
		if told := b.Move(1); !slices.Equal(told, []int{0}) {
			t.Errorf("P11.2: behind a Move to %d that to 1 tells %v", to, told)
		}
		if told := b.Move(0); len(told) != 0 {
			t.Errorf("P11.2: behind a Move to 1 that to 0 tells %v", told)
		}
		if told := b.Move(2); !slices.Equal(told, []int{0, 1}) {
			t.Errorf("P11.2: behind a Move to %d that to 2 tells %v", to, told)
		}
	}
}

// TestMovesApart lets Moves lie one tick apart, exactly Every apart, one short of it, one more, and much
// more. When all were told once at one time, they are told all at once as soon as Every has passed.
func TestMovesApart(t *testing.T) {
	for _, every := range []int{1, 2, 5, 16, 17, 64, 9999, 10000} {
		for _, many := range []int{1, 2, backends} {
			for _, apart := range []int{1, every - 1, every, every + 1, 2*every - 1, 2 * every, 10 * every, 1000*every + 3, 1 << 33} {
				w := beside(t, health.Rule{Rise: 1, Fall: 2, Every: every}, many)
				now := 20
				if told := w.move(now); !slices.Equal(told, span(0, many)) {
					t.Fatalf("P11.2: every %d: all are told, but not as %v", every, told)
				}
				last := now
				for range 60 {
					now += apart
					var want []int
					if now-last >= every {
						want, last = span(0, many), now
					}
					if told := w.move(now); !slices.Equal(told, want) {
						t.Fatalf("P11.2: every %d, %d apart: at %d: %v", every, apart, now, told)
					}
				}
			}
		}
	}
}

// TestEachTick goes on one by one: each probe is told at k + 1 and then every Every.
func TestEachTick(t *testing.T) {
	for _, every := range []int{1, 2, 3, 15, 16, 17, 40, 250} {
		for _, many := range []int{1, 3, backends} {
			w := beside(t, health.Rule{Rise: 1, Fall: 1, Every: every}, many)
			for now := range 600 {
				// Those whose distance from the first time is a number of Everys, by rising numbers.
				var want []int
				for k := range many {
					if now > k && (now-k-1)%every == 0 {
						want = append(want, k)
					}
				}
				if told := w.move(now); !slices.Equal(told, want) {
					t.Fatalf("P11.2: every %d: at %d: %v, not %v", every, now, told, want)
				}
			}
		}
	}
}

func TestTellNone(t *testing.T) {
	for many := 1; many <= backends; many++ {
		w := beside(t, health.Rule{Rise: 1, Fall: 1, Every: 1}, many)
		for _, k := range append([]int{-1, -many, many, many + 1, backends, backends + 1}, far...) {
			for _, good := range []bool{true, false} {
				if k >= 0 && k < many {
					continue
				}
				if changed, is := w.b.Tell(k, good); changed || is {
					t.Errorf("P11.2: of %d: Tell(%d, %v) tells %v and %v", many, k, good, changed, is)
				}
				w.tell(k, good)
			}
		}
		for _, k := range []int{0, many - 1} {
			if changed, is := w.b.Tell(k, true); !changed || !is || !w.b.Up()[k] {
				t.Errorf("P11.2: of %d: Tell(%d, true) tells %v and %v", many, k, changed, is)
			}
			w.plain.tell(k, true)
			w.look()
			w.tell(k, false)
		}
	}
}

// TestTellOne changes one probe of a board, and no other one; it is down at first, and a bad one is not
// counted.
func TestTellOne(t *testing.T) {
	for k := range backends {
		b, _ := health.Lay(health.Rule{Rise: 2, Fall: 3, Every: 1}, backends)
		for at, x := range []struct{ good, changed, up bool }{{false, false, false}, {true, false, false}, {false, false, false}, {true, false, false}, {true, true, true}, {true, false, true}, {false, false, true}, {false, false, true}, {true, false, true}, {false, false, true}, {false, false, true}, {false, true, false}, {false, false, false}} {
			changed, is := b.Tell(k, x.good)
			want := make([]bool, backends)
			want[k] = x.up
			if changed != x.changed || !is || !slices.Equal(b.Up(), want) {
				t.Errorf("P11.2: probe %d, at %d: Tell tells %v and %v, Up %v", k, at, changed, is, b.Up())
			}
		}
	}
}

// TestRunsAreEachs: a run of one probe is neither broken nor made longer by what is told of another one.
func TestRunsAreEachs(t *testing.T) {
	w := beside(t, health.Rule{Rise: 3, Fall: 2, Every: 1}, 3)
	for range 3 {
		for k := range 3 {
			w.tell(k, k != 1)
		}
	}
	if !slices.Equal(w.b.Up(), []bool{true, false, true}) {
		t.Error("P11.2: Up is", w.b.Up())
	}
	w.tell(0, false)
	w.tell(2, false)
	w.tell(1, true)
	w.tell(0, true)
	w.tell(2, false)
	w.tell(0, false)
	if !slices.Equal(w.b.Up(), []bool{true, false, false}) {
		t.Error("P11.2: Up is", w.b.Up())
	}
}

// TestApartFromOneAnother: Tell changes nothing in who is due, and Move nothing in who is up and in runs.
func TestApartFromOneAnother(t *testing.T) {
	r := health.Rule{Rise: 3, Fall: 2, Every: 4}
	told, quiet := beside(t, r, 6), beside(t, r, 6)
	still := beside(t, r, 6)
	chance := rand.New(rand.NewSource(9))
	now := 0
	for range 500 {
		k, good := chance.Intn(8)-1, chance.Intn(3) > 0
		told.tell(k, good)
		still.tell(k, good)
		now += chance.Intn(4)
		if one, other := told.move(now), quiet.move(now); !slices.Equal(one, other) {
			t.Fatalf("P11.2: at %d: %v behind Tells, %v without", now, one, other)
		}
		if !slices.Equal(told.b.Up(), still.b.Up()) {
			t.Fatalf("P11.2: at %d: %v behind Moves, %v without", now, told.b.Up(), still.b.Up())
		}
	}
	if slices.Contains(quiet.b.Up(), true) {
		t.Error("P11.2: somebody is up of whom nothing was told")
	}
}

// act makes one call of a script: now and then one that is refused.
func act(chance *rand.Rand, w *twin, apart int) {
	many := len(w.plain.probes)
	switch chance.Intn(12) {
	case 0:
		w.tell([]int{-1, many, many + 1, -many, far[chance.Intn(len(far))]}[chance.Intn(5)], chance.Intn(2) == 1)
	case 1:
		w.move([]int{w.plain.last - 1, w.plain.last - 1 - chance.Intn(50), lastNow + 1 + chance.Intn(20000), -1, far[0]}[chance.Intn(5)])
	case 2:
		w.move(w.plain.last)
	case 3, 4, 5:
		w.move(w.plain.last + chance.Intn(apart+1))
	default:
		k := chance.Intn(many)
		good := chance.Intn(2) == 1
		for range 1 + chance.Intn(6) {
			w.tell(k, good)
		}
	}
}

// TestScripts is of calls of all kinds, to boards with few and with many probes, by several rules.
func TestScripts(t *testing.T) {
	chance := rand.New(rand.NewSource(1))
	for _, many := range []int{1, 2, 3, 5, 8, backends - 1, backends} {
		for _, r := range []health.Rule{{Rise: 1, Fall: 1, Every: 1}, {Rise: 2, Fall: 3, Every: 10}, {Rise: 3, Fall: 1, Every: 7}, {Rise: 1, Fall: 5, Every: 100}, {Rise: 20, Fall: 20, Every: 10000}, {Rise: 4, Fall: 4, Every: 3}} {
			for _, apart := range []int{1, 2, r.Every, 3 * r.Every, 1 << 34} {
				w := beside(t, r, many)
				for range 250 {
					act(chance, w, apart)
				}
				w.move(lastNow)
				w.move(lastNow)
			}
		}
	}
}

// TestFarOn begins just below the last time.
func TestFarOn(t *testing.T) {
	chance := rand.New(rand.NewSource(2))
	for _, every := range []int{1, 3, 50, 9999, 10000} {
		w := beside(t, health.Rule{Rise: 2, Fall: 2, Every: every}, 9)
		w.move(lastNow - 300)
		for range 400 {
			act(chance, w, 4)
		}
		w.move(lastNow)
		w.move(lastNow + 1)
		w.move(clock)
	}
}

func TestBoardsSideBySide(t *testing.T) {
	r := health.Rule{Rise: 2, Fall: 1, Every: 6}
	one, other, third := beside(t, r, 4), beside(t, r, 4), beside(t, health.Rule{Rise: 1, Fall: 1, Every: 2}, backends)
	r.Rise, r.Fall, r.Every = 20, 20, 10000 // R6: a rule that was handed in is not kept
	chance := rand.New(rand.NewSource(4))
	for range 400 {
		act(chance, one, 5)
		act(chance, other, 9)
		act(chance, third, 3)
		one.look()
		other.look()
		third.look()
	}
}

// TestOwn writes into what was told (R6), up to all that there is room for behind it.
func TestOwn(t *testing.T) {
	w := beside(t, health.Rule{Rise: 1, Fall: 1, Every: 3}, 6)
	spoil := func(l []int) {
		l = l[:cap(l)]
		for at := range l {
			l[at] = 77 - at
		}
	}
	var kept [][]int
	for now := range 60 {
		told := w.move(now)
		kept = append(kept, slices.Clone(told))
		spoil(told)
		spoil(append(told, -1))
		up := w.b.Up()
		up = up[:cap(up)]
		for at := range up {
			up[at] = !up[at]
		}
		w.look()
		w.tell(now%6, now%4 > 1)
	}
	again := lay(health.Rule{Rise: 1, Fall: 1, Every: 3}, 6)
	for now, told := range kept {
		if want := again.move(now); !slices.Equal(told, want) {
			t.Errorf("P11.2: at %d: %v, not %v", now, told, want)
		}
	}
	one, other := w.b.Up(), w.b.Up()
	one[2] = !one[2]
	if one[2] == other[2] {
		t.Error("P11.2: two lists of Up are one")
	}
	// What was told stays as it was, whatever is called behind it.
	first := w.move(1000)
	want, ups, wantUps := slices.Clone(first), w.b.Up(), w.b.Up()
	w.move(2000)
	w.tell(0, true)
	w.tell(0, false)
	w.tell(1, true)
	if !slices.Equal(first, want) || !slices.Equal(ups, wantUps) {
		t.Error("P11.2: a list changed behind the call that told it")
	}
}

// TestSameCallsTellTheSame is R7, of two runs of one script.
func TestSameCallsTellTheSame(t *testing.T) {
	script := func() (l []int) {
		b, _ := health.Lay(health.Rule{Rise: 2, Fall: 2, Every: 3}, backends)
		chance := rand.New(rand.NewSource(6))
		now := 0
		for range 1000 {
			now += chance.Intn(4)
			l = append(l, b.Move(now)...)
			changed, is := b.Tell(chance.Intn(20)-2, chance.Intn(2) == 1)
			if changed {
				l = append(l, 100)
			}
			if is {
				l = append(l, 200)
			}
			for _, up := range b.Up() {
				if up {
					l = append(l, 300)
				}
			}
		}
		return l
	}
	if !slices.Equal(script(), script()) {
		t.Error("P11.2: the same calls tell other than they told")
	}
}

// TestAskingChangesNothing asks again and again between the calls.
func TestAskingChangesNothing(t *testing.T) {
	asked, quiet := beside(t, health.Rule{Rise: 2, Fall: 3, Every: 5}, 4), beside(t, health.Rule{Rise: 2, Fall: 3, Every: 5}, 4)
	for n, good := range knownBits() {
		for range 3 {
			asked.b.Up()
			asked.b.Move(-1)
			asked.b.Tell(-1, good)
			asked.b.Tell(4, !good)
		}
		asked.tell(n%4, good)
		quiet.tell(n%4, good)
		if one, other := asked.move(n), quiet.move(n); !slices.Equal(one, other) {
			t.Fatalf("P11.2: at %d: %v, and %v where nothing was asked", n, one, other)
		}
	}
}

func TestLimitsAreTheDocuments(t *testing.T) {
	if api.MaxBackends != backends || api.MaxClock != clock {
		t.Error("P11.2: MaxBackends and MaxClock are", api.MaxBackends, api.MaxClock)
	}
}
