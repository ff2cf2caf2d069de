package tracks_test

import (
	"math"
	"math/rand"
	"slices"
	"strconv"
	"strings"
	"testing"

	"outrider/api"
	"outrider/tracks"
)

// The limits, as the document says them.
const (
	manyTracks = 8
	nameBytes  = 40
	greatest   = 254 // Weight; the least one is as far below 0
)

// far is what is neither a base nor a Weight, and far from what is one.
var far = []int{math.MinInt, math.MinInt + 1, -1 << 40, -1<<32 - 100, -1 << 32, -1<<32 + 1, -1<<32 + 100, math.MinInt32, -1 << 16, -1<<16 + 100, -1000, -512, -511, -257, -256, 257, 356, 511, 512, 513, 1000, 1 << 16, 1<<16 + 1, 1<<16 + 100, math.MaxInt32, 1 << 31, 1 << 32, 1<<32 + 1, 1<<32 + 100, 1 << 40, math.MaxInt - 1, math.MaxInt}

// list is of tracks that are written as names and Weights.
func list(text string) []tracks.Track {
	var l []tracks.Track
	words := strings.Fields(text)
	for at := 0; at < len(words); at += 2 {
		weight, err := strconv.Atoi(words[at+1])
		if err != nil {
			panic(text)
		}
		l = append(l, tracks.Track{Name: words[at], Weight: weight})
	}
	return l
}

// fromZero is how far a number is from 0.
func fromZero(n int) int {
	if n < 0 {
		return -n
	}
	return n
}

// ahead tells which of two names is the lesser one, byte by byte.
func ahead(one, other string) bool {
	for at := 0; at < len(one) && at < len(other); at++ {
		if one[at] != other[at] {
			return one[at] < other[at]
		}
	}
	return len(one) < len(other)
}

// plain is a plain reading of what a set promises. It adds no Weights up when it is asked: it keeps what all
// come to, from one turn of a track to the next one, and whoever turns moves that as far as its Weight is
// from 0, whether above or below. Who is down stands in a row, into which a track is put, or out of which it
// is taken, when it turns.
type plain struct {
	base, comes int
	list        []tracks.Track
	down        []string
}

func newPlain(base int, l []tracks.Track) *plain {
	p := &plain{base: base, comes: base, list: slices.Clone(l)}
	for _, t := range l {
		if t.Weight < 0 {
			p.comes += t.Weight
		}
		p.putIn(t.Name)
	}
	return p
}

func (p *plain) putIn(name string) {
	at := 0
	for at < len(p.down) && ahead(p.down[at], name) {
		at++
	}
	p.down = slices.Insert(p.down, at, name)
}

func (p *plain) find(name string) (tracks.Track, bool) {
	for _, t := range p.list {
		if t.Name == name {
			return t, true
		}
	}
	return tracks.Track{}, false
}

// priority is the one in the middle of three, where the base is not 255.
func (p *plain) priority() int {
	if p.base == 255 {
		return 255
	}
	three := []int{1, p.comes, 254}
	slices.Sort(three)
	return three[1]
}

func (p *plain) up(name string) (up, is bool) {
	_, is = p.find(name)
	return is && !slices.Contains(p.down, name), is
}

func (p *plain) tell(name string, up bool) (changed, is bool) {
	t, is := p.find(name)
	was, _ := p.up(name)
	if !is || was == up {
		return false, is
	}
	before := p.priority()
	if up {
		p.comes += fromZero(t.Weight)
		at := slices.Index(p.down, name)
		p.down = append(p.down[:at], p.down[at+1:]...)
	} else {
		p.comes -= fromZero(t.Weight)
		p.putIn(name)
	}
	return p.priority() != before, true
}

func (p *plain) setBase(n int) bool {
	if n < 1 || n > 255 {
		return false
	}
	p.comes += n - p.base
	p.base = n
	return true
}

// unknown are names that no set of these tests has.
var unknown = []string{"", "none", "A", "aa", "a\x00", "\x00", "a ", " a", strings.Repeat("a", nameBytes), strings.Repeat("a", nameBytes+1), "\xff"}

// watched is a set beside the plain reading. Behind each call all is asked of both.
type watched struct {
	t     *testing.T
	s     *tracks.Set
	plain *plain
	calls string
}

func watch(t *testing.T, base int, l []tracks.Track) *watched {
	t.Helper()
	s, errno := tracks.New(base, l)
	if errno != api.OK || s == nil {
		t.Fatalf("P12.1: New(%d, %v) tells %d", base, l, errno)
	}
	w := &watched{t: t, s: s, plain: newPlain(base, l)}
	w.look()
	return w
}

func (w *watched) look() {
	w.t.Helper()
	for range 2 {
		if n, want := w.s.Priority(), w.plain.priority(); n != want {
			w.t.Fatalf("P12.2: %v, behind %s: Priority is %d, not %d", w.plain.list, w.calls, n, want)
		}
		if down := w.s.Down(); !slices.Equal(down, w.plain.down) {
			w.t.Fatalf("P12.1: %v, behind %s: Down tells %q, not %q", w.plain.list, w.calls, down, w.plain.down)
		}
		for _, t := range w.plain.list {
			w.lookAt(t.Name)
		}
		for _, name := range unknown {
			w.lookAt(name)
		}
	}
}

func (w *watched) lookAt(name string) {
	w.t.Helper()
	up, is := w.s.Up(name)
	if want, wanted := w.plain.up(name); up != want || is != wanted {
		w.t.Fatalf("P12.1: %v, behind %s: Up(%q) tells %v and %v, not %v and %v", w.plain.list, w.calls, name, up, is, want, wanted)
	}
}

func (w *watched) tell(name string, up bool) {
	w.t.Helper()
	w.calls += " " + name + map[bool]string{true: "+", false: "-"}[up]
	changed, is := w.s.Tell(name, up)
	if want, wanted := w.plain.tell(name, up); changed != want || is != wanted {
		w.t.Fatalf("P12.1: %v, behind%s: Tell tells %v and %v, not %v and %v", w.plain.list, w.calls, changed, is, want, wanted)
	}
	w.look()
}

func (w *watched) base(n int) {
	w.t.Helper()
	w.calls += " " + strconv.Itoa(n)
	if is, want := w.s.Base(n), w.plain.setBase(n); is != want {
		w.t.Fatalf("P12.1: %v, behind%s: Base tells %v", w.plain.list, w.calls, is)
	}
	w.look()
}

// made is a set that must be one.
func made(t *testing.T, base int, l []tracks.Track) *tracks.Set {
	t.Helper()
	s, errno := tracks.New(base, l)
	if errno != api.OK || s == nil {
		t.Fatalf("P12.1: New(%d, %v) tells %d", base, l, errno)
	}
	return s
}

func refused(t *testing.T, base int, l []tracks.Track, what string) {
	t.Helper()
	if s, errno := tracks.New(base, l); errno != api.ErrArg || s != nil {
		t.Errorf("P12.1: %s: New(%d, %v) tells %v and %d", what, base, l, s, errno)
	}
}

// told holds what a Tell tells against what it must tell.
func told(t *testing.T, s *tracks.Set, name string, up, changed, is bool) {
	t.Helper()
	if gotChanged, gotIs := s.Tell(name, up); gotChanged != changed || gotIs != is {
		t.Errorf("P12.1: Tell(%q, %v) tells %v and %v, not %v and %v", name, up, gotChanged, gotIs, changed, is)
	}
}

func isPriority(t *testing.T, s *tracks.Set, want int, what string) {
	t.Helper()
	if n := s.Priority(); n != want {
		t.Errorf("P12.2: %s: Priority is %d, not %d", what, n, want)
	}
}

func isDown(t *testing.T, s *tracks.Set, names ...string) {
	t.Helper()
	if down := s.Down(); !slices.Equal(down, names) {
		t.Errorf("P12.1: Down tells %q, not %q", down, names)
	}
}

func isUp(t *testing.T, s *tracks.Set, name string, up, is bool) {
	t.Helper()
	if gotUp, gotIs := s.Up(name); gotUp != up || gotIs != is {
		t.Errorf("P12.1: Up(%q) tells %v and %v, not %v and %v", name, gotUp, gotIs, up, is)
	}
}

func TestExamples(t *testing.T) {
	s := made(t, 100, []tracks.Track{{Name: "a", Weight: 20}, {Name: "b", Weight: -30}})
	isPriority(t, s, 70, "both are down")
	told(t, s, "b", true, true, true)
	isPriority(t, s, 100, "b is up")
	told(t, s, "a", true, true, true)
	isPriority(t, s, 120, "both are up")
}

// play makes the calls of a script: +name and -name tell a track, =n sets the base. Of each it writes whether
// the Priority changed by a Tell (c) or stays the same (s), whether a base was set (b), or there is none (n),
// and behind it the Priority.
func play(s *tracks.Set, script string) string {
	var answers []string
	for _, call := range strings.Fields(script) {
		mark := "n"
		if call[0] == '=' {
			n, _ := strconv.Atoi(call[1:])
			if s.Base(n) {
				mark = "b"
			}
		} else if changed, is := s.Tell(call[1:], call[0] == '+'); changed {
			mark = "c"
		} else if is {
			mark = "s"
		}
		answers = append(answers, mark+strconv.Itoa(s.Priority()))
	}
	return strings.Join(answers, " ")
}

// A played one is a script, what play writes of it, and who is down behind it.
type played struct {
	base                         int
	tracks, calls, answers, left string
}

func (x played) holds(t *testing.T) {
	t.Helper()
	s := made(t, x.base, list(x.tracks))
	if answers := play(s, x.calls); answers != x.answers {
		t.Errorf("P12.2: %d, %s: %s\ntells     %s\nand not   %s", x.base, x.tracks, x.calls, answers, x.answers)
	}
	isDown(t, s, strings.Fields(x.left)...)
}

// TestByHand is of answers that were worked out by hand.
func TestByHand(t *testing.T) {
	for _, x := range []played{
		{100, "b -30 a 20", "+b +b +a +z -b -b -a -z", "c100 s100 c120 n120 c90 s90 c70 n70", "a b"},
		{100, "", "+a -a =255 +a =1 -a =0 =256 =254", "n100 n100 b255 n255 b1 n1 n1 n1 b254", ""},
		{100, "a 20", "=255 +a =100 -a =255 =100", "b255 s255 b120 c100 b255 b100", "a"},
		{100, "a -20", "=255 +a =100 -a =255 =100", "b255 s255 b100 c80 b255 b80", "a"},
		{250, "a 20 b -7", "+a +b =254 -b -a -b", "c254 s254 b254 s254 c247 s247", "a b"},
		{5, "a -20 b 7", "+b +a -b -a", "s1 c12 c5 c1", "a b"},
		{1, "a -1 b 1", "+a +b -a -b", "s1 c2 c1 s1", "a b"},
		{2, "a -1 b -1", "+a +b -a -b", "s1 c2 c1 s1", "a b"},
		{253, "a 1 b 1 c -1", "+a +b +c -b -a -c", "c253 c254 s254 s254 c253 c252", "a b c"},
		{254, "a -254 b 254", "+b +a -b -a", "c254 s254 s254 c1", "a b"},
		{1, "a 254", "+a -a =255 +a =254 -a", "c254 c1 b255 s255 b254 s254", "a"},
		{100, "a 254 b 254 c 254 d 254 e -254 f -254 g -254 h -254", "+a +b +e +h +c +f +d +g -a -b -c -d -e", "s1 s1 s1 c100 c254 s254 s254 s254 s254 s254 s254 c100 c1", "a b c d e"},
		{200, "x 10 y 20 z 30", "+z +x +y =255 -x =200 -y -z", "c230 c240 c254 b255 s255 b250 c230 c200", "x y z"},
		{100, "up 3 up2 4 Up -5", "+up2 +Up +UP +up =101 -up2", "c99 c104 n104 c107 b108 c104", "up2"},
	} {
		x.holds(t)
	}
}

// TestKnown is of what a reading in another language tells.
func TestKnown(t *testing.T) {
	for _, x := range []played{
		{100, "a 20 b -30", "+b +a +b +a +a +a +a +a -b +a =0 -a -ab -aa +a +a +b +b -b +a -b +b +a +b +a =200 +a -b =200 -a", "c100 c120 s120 s120 s120 s120 s120 s120 c90 s90 n90 c70 n70 n70 c90 s90 c120 s120 c90 s90 s90 c120 s120 s120 s120 b220 s220 c190 b190 c170", "a b"},
		{200, "", "+a -z +a -a +a +a +a +a +a -a +a +a =254 =50 +a -a =150 +a -a -a -a +a -a +a +a +a +a -a +a +a", "n200 n200 n200 n200 n200 n200 n200 n200 n200 n200 n200 n200 b254 b50 n50 n50 b150 n150 n150 n150 n150 n150 n150 n150 n150 n150 n150 n150 n150 n150", ""},
		{1, "one 1", "=254 -one =200 -one +one -one +one -one =0 -aa +one +one -one -one -one +one +one -aa +one -one -one +one +one +one -one +one +z +one -one +one", "b254 s254 b200 s200 c201 c200 c201 c200 n200 n200 c201 s201 c200 s200 s200 c201 s201 n201 s201 c200 s200 c201 s201 s201 c200 c201 n201 s201 c200 c201", ""},
		{254, "x -254", "-x -x -x +x +x -x +x -x -x +x +x +x +x +x +x -x -x +x +x +x +x +x +x +x +x +x +x +x =2 +x", "s1 s1 s1 c254 s254 c1 c254 c1 s1 c254 s254 s254 s254 s254 s254 c1 s1 c254 s254 s254 s254 s254 s254 s254 s254 s254 s254 s254 b2 s2", ""},
		{150, "a 10 b 20 c 30 d 40", "+b +a +c +b +a +d +c +d -a +a +c +d +c +A =50 -z =0 +a -a +d +d +c +a -c =256 +c -aa +a +a +c", "c170 c180 c210 s210 s210 c250 s250 s250 c240 c250 s250 s250 s250 n250 b150 n150 n150 s150 c140 s140 s140 s140 c150 c120 n120 c150 n150 s150 s150 s150", ""},
		{150, "d -10 c -20 b -40 a -80", "+b +a +b +A +c -a +b +d -aa -c -b +b +b -a +ab +b +c +b -a =254 -d -d +a -aa +b +aa +d +c -b +a", "c40 c120 s120 n120 c140 c60 s60 c70 n70 c50 c10 c50 s50 s50 n50 s50 c70 s70 s70 b174 c164 s164 c244 n244 s244 n244 c254 s254 c214 s214", "b"},
		{120, "h 1 g -2 f 4 e -8 d 16 c -32 b 64 a -128", "+a +d +e -a -c +d +g +b +a -b +f +b =2 =253 -aa +g +a -g +e -d +e +g +h -a -aa -h +h +c +g -a", "c78 c94 c102 c1 s1 s1 s1 c40 c168 c104 c108 c172 b54 b254 n254 s254 s254 s254 s254 s254 s254 s254 s254 c162 n162 c161 c162 c194 s194 s194", "a d"},
		{255, "up 254 down -254 mid 7", "-down +mid +up =150 -A +down -mid -up -up -down +down +z +z +up -up -down +up +down -down +up +down +up +mid +down -A +down =255 -mid -up -mid", "s255 s255 s255 b157 n157 c254 s254 c150 s150 c1 c150 n150 n150 c254 c150 c1 c150 c254 c150 s150 c254 s254 s254 s254 n254 s254 b255 s255 s255 s255", "mid up"},
		{60, "p 254 q 254 r -254 s -254 t -3 u 3", "+p +t -q +z +u -r +s +r +u -u +q +p +s -q +t -r -q -q +u +p -s +r +r -s +s +q -u -t +t +u", "s1 s1 s1 n1 s1 s1 c63 c254 s254 s254 s254 s254 s254 s254 s254 c60 s60 s60 c63 s63 c1 c63 s63 s63 c254 s254 s254 s254 s254 s254", ""},
		{128, "e 100 d 100 c 100 b -100 a -100", "-a +e +b +d -aa +d -a +a +c -aa +a -e -e -d -b +e +e +ab -d -z +c +ab =150 =2 +z +c -c +ab -e +b", "s1 c28 c128 c228 n228 s228 s228 c254 s254 n254 s254 s254 s254 c228 c128 c228 s228 n228 s228 n228 s228 n228 b250 b102 n102 s102 c2 n2 c1 c2", "c d e"},
	} {
		x.holds(t)
	}
}

// some is so many tracks, of names n0, n1 and so on, all of one Weight.
func some(many, weight int) []tracks.Track {
	var l []tracks.Track
	for at := range many {
		l = append(l, tracks.Track{Name: "n" + strconv.Itoa(at), Weight: weight})
	}
	return l
}

func TestWrongBases(t *testing.T) {
	for _, base := range append([]int{-255, -254, -100, -2, -1, 0, 256}, far...) {
		refused(t, base, nil, "base")
		refused(t, base, some(1, 20), "base")
		refused(t, base, some(manyTracks, -20), "base")
		for _, before := range []int{1, 100, 254, 255} {
			w := watch(t, before, list("a 20 b -30"))
			w.tell("b", true)
			for range 2 {
				if w.s.Base(base) {
					t.Errorf("P12.1: at %d: Base(%d) tells true", before, base)
				}
				w.base(base)
			}
			w.tell("a", true)
			w.tell("b", false)
		}
	}
}

func TestRightBases(t *testing.T) {
	one := made(t, 100, nil)
	for base := 1; base <= 255; base++ {
		isPriority(t, made(t, base, nil), base, "no track")
		isPriority(t, made(t, base, []tracks.Track{}), base, "no track")
		isPriority(t, made(t, base, some(manyTracks, 20)), base, "all are down, and none is missed")
		if !one.Base(base) {
			t.Errorf("P12.1: Base(%d) tells false", base)
		}
		isPriority(t, one, base, "no track")
		isDown(t, one)
	}
}

func TestHowMany(t *testing.T) {
	for many := range manyTracks + 1 {
		for _, weight := range []int{1, -1, 254, -254} {
			l := some(many, weight)
			w := watch(t, 120, l)
			if down := w.s.Down(); len(down) != many {
				t.Errorf("P12.1: of %d: %q are down", many, down)
			}
			for _, x := range l {
				w.tell(x.Name, true)
			}
			isDown(t, w.s)
			for _, x := range l {
				w.tell(x.Name, false)
			}
		}
	}
	for _, many := range []int{9, 10, 16, 17, 255, 256, 257, 264, 1000, 1 << 16, 1<<16 + 1, 1<<16 + 8} {
		refused(t, 100, some(many, 1), "too many")
		refused(t, 255, some(many, -254), "too many")
	}
	refused(t, 100, make([]tracks.Track, 9), "too many")
}

// with is a list of so many tracks, of which the one at a place is another one.
func with(many, at int, other tracks.Track) []tracks.Track {
	l := some(many, 5)
	l[at] = other
	return l
}

// everywhere hands in a track at each place of lists of all lengths.
func everywhere(x tracks.Track, hand func(l []tracks.Track)) {
	for many := 1; many <= manyTracks; many++ {
		for at := range many {
			hand(with(many, at, x))
		}
	}
}

func TestWrongNames(t *testing.T) {
	names := []string{"", "\xff" + strings.Repeat("\x00", 40), strings.Repeat("é", 21)}
	for _, long := range []int{41, 42, 64, 100, 255, 256, 257, 257 + 39, 1 << 16, 1<<16 + 1, 1<<16 + 40, 1 << 20} {
		names = append(names, strings.Repeat("n", long), strings.Repeat("\x00", long))
	}
	for _, name := range names {
		for _, weight := range []int{254, 1, -1, -254} {
			everywhere(tracks.Track{Name: name, Weight: weight}, func(l []tracks.Track) { refused(t, 100, l, "Name") })
		}
	}
}

// texts are names of all kinds, no two of them the same.
func texts() []string {
	l := []string{" ", "  ", "\t", "\n", "\r\n", "a b", "eth0", "eth1", "0", "00", "é", "e\u0301", "日本語", "\xc3", "\xc3\xa9\xc3", "\xe2\x82", "\xed\xa0\x80", "\xf8\x88\x80\x80\x80", "\ufeff", "\ufffd", "a\x00b", "a\x00", "\x00a", "\x00\x00", "\xff\xff", "\xff\x00"}
	for long := 2; long <= nameBytes; long++ {
		l = append(l, strings.Repeat("n", long), strings.Repeat("\x80", long))
	}
	l = append(l, strings.Repeat("é", 20), strings.Repeat("n", 39)+"\x00", strings.Repeat("n", 39)+"\xff", strings.Repeat("n", 38)+"\xffn", "N"+strings.Repeat("n", 39))
	for c := range 256 {
		if c != ' ' && c != '\t' && c != '\n' && c != '0' && c != 0xc3 {
			l = append(l, string([]byte{byte(c)}))
		}
	}
	return l
}

func TestRightNames(t *testing.T) {
	for at, name := range texts() {
		if slices.Index(texts(), name) != at {
			t.Fatalf("%q is there twice", name)
		}
		for _, weight := range []int{30, -30} {
			everywhere(tracks.Track{Name: name, Weight: weight}, func(l []tracks.Track) {
				w := watch(t, 100, l)
				told(t, w.s, name, true, true, true)
				w.plain.tell(name, true)
				w.look()
				w.tell(name, false)
			})
		}
	}
}

// TestManyNames lays sets of eight names at a time, near ones beside one another.
func TestManyNames(t *testing.T) {
	l := texts()
	chance := rand.New(rand.NewSource(3))
	for range 3 {
		for at := 0; at+manyTracks <= len(l); at += 3 {
			var of []tracks.Track
			for k, name := range l[at : at+manyTracks] {
				of = append(of, tracks.Track{Name: name, Weight: 1<<k - 2*(k&1)<<k})
			}
			w := watch(t, 170, of)
			for range 20 {
				w.tell(of[chance.Intn(manyTracks)].Name, chance.Intn(2) == 1)
			}
		}
		chance.Shuffle(len(l), func(one, other int) { l[one], l[other] = l[other], l[one] })
	}
}

// TestNamesAlike is of names that differ in one byte, or in the length alone: what one is told is none of
// the other one's.
func TestNamesAlike(t *testing.T) {
	long := strings.Repeat("n", nameBytes)
	pairs := [][2]string{{"a", "A"}, {"a", "b"}, {"a", "aa"}, {"a", "a\x00"}, {"a", "a "}, {"a", "\x00a"}, {"é", "e\u0301"}, {"é", "\xc3"}, {"\xc3\xa9", "\xc3\xa8"}, {"\x00", "\x00\x00"}, {"\x7f", "\x80"}, {"\xff", "\ufffd"}, {"\xff", "\xfe"}, {long, long[1:]}, {"ab", "ba"}, {"01", "1"}}
	for at := range long {
		for _, bit := range []int{0, 5, 7} {
			other := []byte(long)
			other[at] ^= 1 << bit
			pairs = append(pairs, [2]string{long, string(other)})
		}
		if at > 0 {
			pairs = append(pairs, [2]string{long, long[:at]})
		}
	}
	for _, x := range pairs {
		for _, turned := range []bool{false, true} {
			one, other := x[0], x[1]
			if turned {
				one, other = other, one
			}
			s := made(t, 100, []tracks.Track{{Name: one, Weight: 3}, {Name: other, Weight: -7}})
			told(t, s, one, true, true, true)
			isUp(t, s, one, true, true)
			isUp(t, s, other, false, true)
			isDown(t, s, other)
			isPriority(t, s, 96, "one is up")
			told(t, s, other, true, true, true)
			told(t, s, one, false, true, true)
			isUp(t, s, one, false, true)
			isUp(t, s, other, true, true)
			isDown(t, s, one)
			isPriority(t, s, 100, "the other one is up")
			alone := made(t, 100, []tracks.Track{{Name: one, Weight: 3}})
			told(t, alone, other, true, false, false)
			isUp(t, alone, other, false, false)
			isDown(t, alone, one)
			isPriority(t, alone, 100, "told another one")
		}
	}
}

// TestTheSameTwice is of each pair of places of lists of all lengths.
func TestTheSameTwice(t *testing.T) {
	for _, name := range []string{"a", "n0x", "\x00", "\xff\xff", strings.Repeat("n", nameBytes)} {
		for _, weight := range []int{5, 6, -5, 254, -254} {
			for many := 2; many <= manyTracks; many++ {
				for first := range many {
					for second := first + 1; second < many; second++ {
						l := some(many, 5)
						l[first] = tracks.Track{Name: name, Weight: 5}
						l[second] = tracks.Track{Name: name, Weight: weight}
						refused(t, 100, l, "two are the same")
						refused(t, 255, l, "two are the same")
						l[second].Name = "other"
						made(t, 100, l)
					}
				}
				var all []tracks.Track
				for range many {
					all = append(all, tracks.Track{Name: name, Weight: weight})
				}
				refused(t, 100, all, "all are the same")
			}
		}
	}
}

func TestWrongWeights(t *testing.T) {
	for _, weight := range append([]int{-256, -255, 0, 255, 256}, far...) {
		for _, name := range []string{"a", "\x00", strings.Repeat("n", nameBytes)} {
			everywhere(tracks.Track{Name: name, Weight: weight}, func(l []tracks.Track) {
				refused(t, 100, l, "Weight")
				refused(t, 255, l, "Weight")
			})
		}
	}
}

// TestMuchAmiss is of more than one thing that is amiss.
func TestMuchAmiss(t *testing.T) {
	for _, base := range []int{0, 100, 256} {
		for _, many := range []int{1, 2, 8, 9, 100} {
			for _, name := range []string{"", "a", strings.Repeat("n", 41)} {
				for _, weight := range []int{-255, 0, 1, 255} {
					var l []tracks.Track
					for range many {
						l = append(l, tracks.Track{Name: name, Weight: weight})
					}
					if base == 100 && many == 1 && name == "a" && weight == 1 {
						made(t, base, l)
						continue
					}
					refused(t, base, l, "much is amiss")
				}
			}
		}
	}
}

// TestEachWeight is of each base with each Weight: what comes of them while the track is down, and while it
// is up. It is worked out one by one, up from the least one and down from the greatest one.
func TestEachWeight(t *testing.T) {
	for base := 1; base <= 255; base++ {
		raised, lowered := base, base
		for weight := 1; weight <= greatest; weight++ {
			if base < 255 {
				raised, lowered = min(raised+1, 254), max(lowered-1, 1)
			}
			raises := made(t, base, []tracks.Track{{Name: "a", Weight: weight}})
			lowers := made(t, base, []tracks.Track{{Name: "a", Weight: -weight}})
			if raises.Priority() != base || lowers.Priority() != lowered {
				t.Fatalf("P12.2: %d and %d, down: %d and %d", base, weight, raises.Priority(), lowers.Priority())
			}
			if changed, is := raises.Tell("a", true); changed != (raised != base) || !is || raises.Priority() != raised {
				t.Fatalf("P12.2: %d and %d, up: %v and %d", base, weight, changed, raises.Priority())
			}
			if changed, is := lowers.Tell("a", true); changed != (lowered != base) || !is || lowers.Priority() != base {
				t.Fatalf("P12.2: %d and %d, up: %v and %d", base, -weight, changed, lowers.Priority())
			}
			if changed, is := raises.Tell("a", false); changed != (raised != base) || !is || raises.Priority() != base {
				t.Fatalf("P12.2: %d and %d, down again: %v and %d", base, weight, changed, raises.Priority())
			}
			if changed, is := lowers.Tell("a", false); changed != (lowered != base) || !is || lowers.Priority() != lowered {
				t.Fatalf("P12.2: %d and %d, down again: %v and %d", base, -weight, changed, lowers.Priority())
			}
		}
	}
}

// TestSums is of sums at the bounds, one off them, and far off: all tracks are up, or down, as is said.
func TestSums(t *testing.T) {
	for _, x := range []struct {
		base     int
		l        string
		down, up int
	}{
		{100, "a -99", 1, 100}, {100, "a -100", 1, 100}, {100, "a -101", 1, 100}, {100, "a -98", 2, 100},
		{100, "a 153", 100, 253}, {100, "a 154", 100, 254}, {100, "a 155", 100, 254}, {100, "a 156", 100, 254},
		{100, "a -50 b -49", 1, 100}, {100, "a -50 b -50", 1, 100}, {100, "a -50 b -48", 2, 100}, {100, "a -50 b -51", 1, 100},
		{100, "a 100 b 53", 100, 253}, {100, "a 100 b 54", 100, 254}, {100, "a 100 b 55", 100, 254}, {100, "a 100 b 56", 100, 254},
		{1, "a 253", 1, 254}, {1, "a 254", 1, 254}, {1, "a 252", 1, 253}, {1, "a -1", 1, 1}, {1, "a -254", 1, 1}, {2, "a -1", 1, 2}, {2, "a -2", 1, 2},
		{254, "a -253", 1, 254}, {254, "a -254", 1, 254}, {254, "a -252", 2, 254}, {254, "a 1", 254, 254}, {254, "a 254", 254, 254},
		{1, "a 254 b 254 c 254 d 254 e 254 f 254 g 254 h 254", 1, 254},
		{254, "a 254 b 254 c 254 d 254 e 254 f 254 g 254 h 254", 254, 254},
		{1, "a -254 b -254 c -254 d -254 e -254 f -254 g -254 h -254", 1, 1},
		{254, "a -254 b -254 c -254 d -254 e -254 f -254 g -254 h -254", 1, 254},
		{254, "a -254 b 254 c -254 d 254 e -254 f 254 g -254 h 254", 1, 254},
		{128, "a -127 b 126", 1, 254}, {128, "a -126 b 125", 2, 253}, {128, "a -128 b 127", 1, 254},
		{255, "a -254 b 254 c -254 d 254 e -254 f 254 g -254 h 254", 255, 255},
		{255, "a -1", 255, 255}, {255, "a 1", 255, 255}, {255, "", 255, 255}, {254, "", 254, 254}, {1, "", 1, 1},
	} {
		w := watch(t, x.base, list(x.l))
		isPriority(t, w.s, x.down, x.l+", down")
		for _, one := range list(x.l) {
			w.tell(one.Name, true)
		}
		isPriority(t, w.s, x.up, x.l+", up")
		for _, one := range list(x.l) {
			w.tell(one.Name, false)
		}
		isPriority(t, w.s, x.down, x.l+", down again")
	}
}

// TestBoundsAreForTheSum: what is far above is brought back by what is below 0, as far as it goes, and what
// is far below by what is above: neither is lost at a bound on the way.
func TestBoundsAreForTheSum(t *testing.T) {
	for _, l := range []string{"a 200 b -200 c 200 d -200 e 7", "d -200 a 200 e 7 c 200 b -200", "e 7 b -200 d -200 a 200 c 200", "a 200 c 200 e 7 b -200 d -200"} {
		s := made(t, 100, list(l))
		isPriority(t, s, 1, "all are down")
		told(t, s, "a", true, false, true)
		isPriority(t, s, 1, "300 and -400")
		told(t, s, "c", true, true, true)
		isPriority(t, s, 100, "500 and -400")
		told(t, s, "e", true, true, true)
		isPriority(t, s, 107, "507 and -400")
		told(t, s, "b", true, true, true)
		isPriority(t, s, 254, "507 and -200")
		told(t, s, "c", false, true, true)
		isPriority(t, s, 107, "307 and -200")
		told(t, s, "d", true, true, true)
		isPriority(t, s, 254, "307")
		told(t, s, "a", false, true, true)
		isPriority(t, s, 107, "107")
	}
}

// kinds are lists of Weights above 0, below 0 and of both kinds, from one track to eight.
func kinds() []string {
	return []string{
		"a 20", "a -20", "a 254", "a -254", "a 20 b -30", "b 20 a 20", "b -20 a -20", "c 1 b 2 a 3",
		"x 100 y -100 z 7", "x 254 y -254 z 254", "d -1 c -2 b -4 a -8", "a 60 b 60 c 60 d 60 e 60",
		"f 1 e 2 d 4 c -8 b -16 a -32", "a -100 b -100 c -100 d 100 e 100 f 100 g 3",
		"h 1 g -2 f 4 e -8 d 16 c -32 b 64 a -128", "a 1 b 1 c 1 d 1 e 1 f 1 g 1 h 1",
		"a -9 b -9 c -9 d -9 e -9 f -9 g -9 h -9", "a 254 b -254 c 254 d -254 e 254 f -254 g 254 h -254",
		"p 30 q 29 r 28 s 27 t -30 u -29 v -28 w -27",
	}
}

// TestEverySubset is of all that can be up of each list: in the order of a Gray code, in which one turns at
// a time.
func TestEverySubset(t *testing.T) {
	for _, text := range kinds() {
		for _, base := range []int{1, 100, 254, 255} {
			l := list(text)
			w := watch(t, base, l)
			seen := map[int]bool{}
			for n := range 1 << len(l) {
				up := n ^ n>>1
				seen[up] = true
				for at, x := range l {
					if is, _ := w.s.Up(x.Name); is != (up>>at&1 == 1) {
						w.tell(x.Name, !is)
					}
				}
			}
			if len(seen) != 1<<len(l) {
				t.Fatal("not all of them were seen")
			}
		}
	}
}

// answers is all that a set tells of its names.
func answers(s *tracks.Set, l []tracks.Track) string {
	text := strconv.Itoa(s.Priority()) + " " + strconv.Quote(strings.Join(s.Down(), " "))
	for _, x := range l {
		up, is := s.Up(x.Name)
		text += " " + strconv.FormatBool(up) + strconv.FormatBool(is)
	}
	return text
}

// orders is all orders of so many.
func orders(many int) [][]int {
	if many == 0 {
		return [][]int{nil}
	}
	var all [][]int
	for _, order := range orders(many - 1) {
		for at := range many {
			all = append(all, slices.Insert(slices.Clone(order), at, many-1))
		}
	}
	return all
}

// TestOrdersOfTelling is P12.3's first half: five tracks are told once each, in all orders, after some of them
// were told otherwise.
func TestOrdersOfTelling(t *testing.T) {
	if len(orders(5)) != 120 {
		t.Fatal("not all orders")
	}
	for _, text := range []string{"a 20 b -30 c 40 d -50 e 5", "e 254 d -254 c 254 b -254 a 254", "a 90 b 90 c 90 d 90 e 90", "e -60 d -60 c -60 b -60 a -60", "b 1 a -1 d 2 c -2 e 254"} {
		l := list(text)
		for _, base := range []int{1, 3, 100, 200, 254, 255} {
			for up := range 1 << len(l) {
				want := ""
				for n, order := range orders(len(l)) {
					s := made(t, base, l)
					if n%2 == 1 {
						for at := range n % 6 {
							s.Tell(l[order[at%5]].Name, at != 2)
						}
					}
					for _, at := range order {
						s.Tell(l[at].Name, up>>at&1 == 1)
					}
					if n == 0 {
						want = answers(s, l)
					}
					if got := answers(s, l); got != want {
						t.Fatalf("P12.3: %s, told by %v: %s, not %s", text, order, got, want)
					}
				}
			}
		}
	}
}

// TestOrdersOfTheList: in which order tracks were handed in is not seen, either.
func TestOrdersOfTheList(t *testing.T) {
	for _, text := range []string{"a 20 b -30 c 40 d -50 e 5", "e 254 d -254 c 254 b -254 a 254", "b 1 a -1 d 2 c -2 e 254"} {
		l := list(text)
		for _, base := range []int{1, 100, 254, 255} {
			want := ""
			for n, order := range orders(len(l)) {
				var turned []tracks.Track
				for _, at := range order {
					turned = append(turned, l[at])
				}
				s := made(t, base, turned)
				got := answers(s, l)
				for _, call := range strings.Fields("+a +b -a +e +d -e +a +c +c -b") {
					s.Tell(call[1:], call[0] == '+')
					got += " " + answers(s, l)
				}
				if n == 0 {
					want = got
				}
				if got != want {
					t.Fatalf("P12.3: %v: %s, not %s", turned, got, want)
				}
			}
		}
	}
}

// TestNeverLess is P12.3's other half, with its other side: who goes down never makes the Priority greater.
func TestNeverLess(t *testing.T) {
	chance := rand.New(rand.NewSource(7))
	rose, fell, stayed := 0, 0, 0
	for range 4000 {
		l := mixed(chance, chance.Intn(manyTracks)+1)
		s := made(t, chance.Intn(255)+1, l)
		for range 30 {
			name, up := l[chance.Intn(len(l))].Name, chance.Intn(2) == 1
			before := s.Priority()
			changed, is := s.Tell(name, up)
			after := s.Priority()
			if !is || changed != (before != after) {
				t.Fatalf("P12.1: %v: Tell(%q, %v) tells %v and %v, from %d to %d", l, name, up, changed, is, before, after)
			}
			if up && after < before || !up && after > before {
				t.Fatalf("P12.3: %v: Tell(%q, %v): from %d to %d", l, name, up, before, after)
			}
			if after < 1 || after > 255 {
				t.Fatalf("P12.2: %v: Priority is %d", l, after)
			}
			switch {
			case after > before:
				rose++
			case after < before:
				fell++
			default:
				stayed++
			}
		}
	}
	if rose < 1000 || fell < 1000 || stayed < 1000 {
		t.Error("P12.3: too few to tell:", rose, fell, stayed)
	}
}

// mixed is a list of so many tracks, of all kinds of names and Weights.
func mixed(chance *rand.Rand, many int) []tracks.Track {
	names := texts()
	var l []tracks.Track
	for _, at := range chance.Perm(len(names))[:many] {
		weight := 1 + chance.Intn([]int{3, 40, 254}[chance.Intn(3)])
		if chance.Intn(2) == 1 {
			weight = -weight
		}
		l = append(l, tracks.Track{Name: names[at], Weight: weight})
	}
	return l
}

// TestWhatStandsSo tells what is so already.
func TestWhatStandsSo(t *testing.T) {
	for _, text := range kinds() {
		for _, base := range []int{1, 100, 254, 255} {
			l := list(text)
			w := watch(t, base, l)
			for _, up := range []bool{false, true, false} {
				for _, x := range l {
					w.tell(x.Name, up)
					for range 3 {
						told(t, w.s, x.Name, up, false, true)
						w.look()
					}
				}
			}
		}
	}
}

// TestUnseen turns tracks that do not turn the Priority: since it is 255, or held at a bound. They are turned
// all the same.
func TestUnseen(t *testing.T) {
	for _, x := range []struct {
		base     int
		l, first string
		priority int
	}{
		{255, "a 20", "", 255}, {255, "a -20", "", 255}, {255, "a 254", "", 255}, {255, "a -254 b 3", "", 255},
		{254, "a 1", "", 254}, {254, "a 254", "", 254}, {200, "b 54 a 1", "b", 254}, {200, "b 100 a 20", "b", 254}, {100, "b 254 a -100", "b", 254},
		{1, "a -1", "", 1}, {1, "a -254", "", 1}, {100, "b -254 a 100", "", 1}, {100, "b -254 a -50", "", 1}, {100, "b -99 c -10 a 10", "", 1},
	} {
		w := watch(t, x.base, list(x.l))
		for _, name := range strings.Fields(x.first) {
			w.tell(name, true)
		}
		before := w.s.Down()
		for range 2 {
			told(t, w.s, "a", true, false, true)
			isUp(t, w.s, "a", true, true)
			isPriority(t, w.s, x.priority, x.l)
			isDown(t, w.s, before[1:]...)
			told(t, w.s, "a", false, false, true)
			isUp(t, w.s, "a", false, true)
			isPriority(t, w.s, x.priority, x.l)
			isDown(t, w.s, before...)
		}
		// The turn that was not seen is there when the base lets it be seen.
		w.tell("a", true)
		for _, base := range []int{120, 1, 254, 255, 60} {
			w.base(base)
		}
	}
}

// TestNone is of names that are not there.
func TestNone(t *testing.T) {
	for _, text := range append(kinds(), "") {
		w := watch(t, 100, list(text))
		for round := range 3 {
			for _, name := range append(unknown, texts()...) {
				if _, is := w.plain.find(name); is {
					continue
				}
				told(t, w.s, name, true, false, false)
				isUp(t, w.s, name, false, false)
				told(t, w.s, name, false, false, false)
				isUp(t, w.s, name, false, false)
			}
			w.look()
			for _, x := range list(text) {
				w.tell(x.Name, round == 0)
			}
		}
	}
}

// TestRising is of names in the order of their bytes.
func TestRising(t *testing.T) {
	rising := []string{"\x00", "\x00\x00", "\x00a", "0", "10", "2", "A", "B", "Z", "a", "a\x00", "a ", "a0", "aa", "ab", "b", "z", "\x7f", "\x80", "é", "日", "\xff", "\xff\x00", "\xff\xff"}
	for at := range len(rising) - manyTracks + 1 {
		names := rising[at : at+manyTracks]
		for n := range 40 {
			var l []tracks.Track
			for k := range names {
				l = append(l, tracks.Track{Name: names[(k*5+n)%manyTracks], Weight: n - 100})
			}
			s := made(t, 100, l)
			isDown(t, s, names...)
			for _, k := range []int{3, 0, 7} {
				s.Tell(names[k], true)
			}
			isDown(t, s, names[1], names[2], names[4], names[5], names[6])
			s.Tell(names[3], false)
			isDown(t, s, names[1], names[2], names[3], names[4], names[5], names[6])
			for _, name := range names {
				s.Tell(name, true)
			}
			isDown(t, s)
			s.Tell(names[6], false)
			s.Tell(names[2], false)
			isDown(t, s, names[2], names[6])
		}
	}
}

// TestBaseKeepsStates: a base changes who is up in nothing, also one that is refused, and also 255.
func TestBaseKeepsStates(t *testing.T) {
	s := made(t, 100, list("a 20 b -30 c 40"))
	s.Tell("b", true)
	s.Tell("c", true)
	for _, x := range []struct {
		n, priority int
		is          bool
	}{{100, 140, true}, {255, 255, true}, {256, 255, false}, {0, 255, false}, {-1, 255, false}, {100, 140, true}, {0, 140, false}, {256, 140, false}, {math.MaxInt, 140, false}, {math.MinInt, 140, false}, {1, 41, true}, {254, 254, true}, {255, 255, true}, {254, 254, true}, {213, 253, true}, {214, 254, true}, {215, 254, true}, {255, 255, true}, {255, 255, true}, {2, 42, true}} {
		for range 2 {
			if is := s.Base(x.n); is != x.is {
				t.Errorf("P12.1: Base(%d) tells %v", x.n, is)
			}
			isPriority(t, s, x.priority, "Base "+strconv.Itoa(x.n))
			isDown(t, s, "a")
			isUp(t, s, "a", false, true)
			isUp(t, s, "b", true, true)
			isUp(t, s, "c", true, true)
		}
	}
	told(t, s, "b", false, true, true)
	isPriority(t, s, 12, "b is down")
}

// TestOwnerAndBack: what is told while the base is 255 counts when it is so no more.
func TestOwnerAndBack(t *testing.T) {
	s := made(t, 255, list("a 20 b -30"))
	isPriority(t, s, 255, "the base")
	told(t, s, "b", true, false, true)
	told(t, s, "a", true, false, true)
	isDown(t, s)
	if !s.Base(100) {
		t.Error("P12.1: Base(100) tells false")
	}
	isPriority(t, s, 120, "both are up")
	if !s.Base(255) {
		t.Error("P12.1: Base(255) tells false")
	}
	told(t, s, "b", false, false, true)
	told(t, s, "a", false, false, true)
	isPriority(t, s, 255, "the base")
	s.Base(254)
	isPriority(t, s, 224, "both are down")
	told(t, s, "b", true, true, true)
	isPriority(t, s, 254, "b is up")
}

// act makes one call of a script.
func act(chance *rand.Rand, w *watched) {
	switch n := chance.Intn(12); {
	case n == 0:
		w.base([]int{-1, 0, 256, far[chance.Intn(len(far))]}[chance.Intn(4)])
	case n == 1:
		w.base([]int{1, 2, 253, 254, 255}[chance.Intn(5)])
	case n == 2:
		w.base(1 + chance.Intn(255))
	case n == 3 || len(w.plain.list) == 0:
		w.tell(unknown[chance.Intn(len(unknown))], chance.Intn(2) == 1)
	default:
		w.tell(w.plain.list[chance.Intn(len(w.plain.list))].Name, chance.Intn(2) == 1)
	}
}

// TestScripts is of calls of all kinds, to sets of no track, of one, of some and of eight.
func TestScripts(t *testing.T) {
	chance := rand.New(rand.NewSource(12))
	for _, text := range append(kinds(), "") {
		for _, base := range []int{1, 60, 128, 200, 254, 255} {
			w := watch(t, base, list(text))
			for range 150 {
				act(chance, w)
			}
		}
	}
}

// TestMixedScripts is of such names and Weights as come.
func TestMixedScripts(t *testing.T) {
	chance := rand.New(rand.NewSource(13))
	for n := range 360 {
		var l []tracks.Track
		for _, x := range mixed(chance, n%(manyTracks+1)) {
			if !slices.Contains(unknown, x.Name) {
				l = append(l, x)
			}
		}
		w := watch(t, 1+chance.Intn(255), l)
		for range 60 {
			act(chance, w)
		}
	}
}

// TestHandedIn: the list that was handed in stays as it was (R5), and what its caller writes into it behind
// New is not seen (R6).
func TestHandedIn(t *testing.T) {
	for _, text := range append(kinds(), "") {
		l := append(list(text), make([]tracks.Track, 3)...)[:len(list(text))]
		room := l[:cap(l)]
		before := slices.Clone(room)
		w := watch(t, 100, l)
		for _, x := range list(text) {
			w.tell(x.Name, true)
			w.tell(x.Name, false)
		}
		w.base(90)
		if !slices.Equal(room, before) {
			t.Errorf("P12.1: %s: the list is %v behind New", text, room)
		}
		for at := range room {
			room[at] = tracks.Track{Name: "other" + strconv.Itoa(at), Weight: 77}
		}
		w.look()
		for _, x := range list(text) {
			w.tell(x.Name, true)
		}
		isUp(t, w.s, "other0", false, false)
		told(t, w.s, "other0", true, false, false)
		if !slices.Equal(l, room[:len(l)]) || len(l) > 0 && l[0].Name != "other0" {
			t.Errorf("P12.1: %s: the list is written into behind New", text)
		}
	}
	// Refused, it stays as it was, too.
	l := list("b 1 a 2 b 3")
	refused(t, 100, l, "two are the same")
	if !slices.Equal(l, list("b 1 a 2 b 3")) {
		t.Error("P12.1: the list is", l, "behind a New that refuses it")
	}
}

// TestOwn writes into what Down told (R6), up to all that there is room for behind it.
func TestOwn(t *testing.T) {
	w := watch(t, 100, list("h 1 g -2 f 4 e -8 d 16 c -32 b 64 a -128"))
	spoil := func(l []string) {
		l = l[:cap(l)]
		for at := range l {
			l[at] = "spoiled" + strconv.Itoa(at)
		}
	}
	for n := range 64 {
		first, second := w.s.Down(), w.s.Down()
		kept := slices.Clone(first)
		spoil(first)
		spoil(append(first, "more"))
		if !slices.Equal(second, kept) {
			t.Errorf("P12.1: two lists of Down are one: %q", second)
		}
		w.look()
		w.tell(string(rune('a'+n*3%8)), n%3 > 0)
		w.base(1 + n*4)
		// What was told stays as it was, whatever is called behind it.
		if !slices.Equal(second, kept) {
			t.Errorf("P12.1: what Down told changed to %q", second)
		}
	}
}

func TestSideBySide(t *testing.T) {
	l := list("a 20 b -30 c 40 d -50")
	one, other, third := watch(t, 100, l), watch(t, 100, l), watch(t, 200, list("a -20 b 30 z 1"))
	chance := rand.New(rand.NewSource(4))
	for range 500 {
		act(chance, one)
		act(chance, other)
		act(chance, third)
		one.look()
		other.look()
		if chance.Intn(100) == 0 {
			refused(t, 0, l, "base")
			made(t, 255, l).Tell("a", true)
		}
	}
}

// TestSameCallsTellTheSame is R7, of many runs of one script: no order of a map is seen.
func TestSameCallsTellTheSame(t *testing.T) {
	script := func() string {
		l := list("h 1 g -2 f 4 e -8 d 16 c -32 b 64 a -128")
		s := made(t, 120, l)
		text := ""
		chance := rand.New(rand.NewSource(6))
		for range 60 {
			changed, is := s.Tell(string(rune('a'+chance.Intn(10))), chance.Intn(2) == 1)
			text += strconv.FormatBool(changed) + strconv.FormatBool(is) + answers(s, l)
		}
		return text
	}
	first := script()
	for range 50 {
		if script() != first {
			t.Fatal("P12.1: the same calls tell other than they told")
		}
	}
}

// TestAskingChangesNothing asks again and again between the calls.
func TestAskingChangesNothing(t *testing.T) {
	l := list("a 20 b -30 c 254 d -254")
	asked, quiet := made(t, 100, l), made(t, 100, l)
	chance := rand.New(rand.NewSource(8))
	for range 400 {
		for range 3 {
			answers(asked, l)
			asked.Base(0)
			asked.Tell("none", true)
			asked.Up("none")
		}
		name, up := l[chance.Intn(4)].Name, chance.Intn(2) == 1
		one, _ := asked.Tell(name, up)
		other, _ := quiet.Tell(name, up)
		if one != other {
			t.Fatalf("P12.1: Tell(%q, %v) tells %v, and %v where nothing was asked", name, up, one, other)
		}
		if n := 1 + chance.Intn(255); chance.Intn(5) == 0 && asked.Base(n) != quiet.Base(n) {
			t.Fatalf("P12.1: Base(%d) tells other where nothing was asked", n)
		}
	}
	if one, other := answers(asked, l), answers(quiet, l); one != other {
		t.Fatalf("P12.1: %s, and %s where nothing was asked", one, other)
	}
}
