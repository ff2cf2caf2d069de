package flows_test

import (
	"math"
	"math/rand"
	"slices"
	"strings"
	"testing"

	"outrider/api"
	"outrider/flows"
	"outrider/sip"
)

// The limits, as the document says them.
const (
	most     = 64
	backends = 16
	clock    = 1 << 40
	lastNow  = clock - 1000
)

// The flags.
const (
	fin = 1
	syn = 2
	rst = 4
	psh = 8
	ack = 16
	urg = 32
)

// The states.
const (
	opening   = 1
	open      = 2
	closing   = 3
	datagrams = 4
)

// What no call takes, and far from what one takes.
var far = []int{math.MinInt, math.MinInt + 1, -1 << 41, -1 << 32, -17, -2, 17, 255, 256, 1 << 31, 1 << 32, 1<<32 + 1, math.MaxInt - 1, math.MaxInt}

// The keys of which a table is made: none of them is to be seen in an answer.
var keys = []sip.Key{{}, sip.Number(5), {15: 1}, {0: 0xff, 1: 0x80, 8: 7, 15: 0xff}}

// alike tells whether two flows are one, part by part.
func alike(f, g api.Flow) bool {
	return f.Proto == g.Proto && string(f.From) == string(g.From) && string(f.To) == string(g.To) && f.Port == g.Port && f.Dest == g.Dest
}

// same tells whether two entries are alike, part by part.
func same(e, other flows.Entry) bool {
	return alike(e.Flow, other.Flow) && e.Backend == other.Backend && e.State == other.State && e.Ends == other.Ends
}

func sameAll(l, other []flows.Entry) bool {
	return slices.EqualFunc(l, other, same)
}

// lives is how long a flow of each state lives, and steps the state behind a packet without FIN and RST:
// by SYN, by ACK, and by the state ahead of it.
var (
	lives = map[int]int{opening: 60, open: 900, closing: 30, datagrams: 120}
	steps = [2][2][5]int{
		{{0, 1, 2, 3, 4}, {0, 2, 2, 3, 4}},
		{{0, 1, 2, 1, 4}, {0, 1, 2, 3, 4}},
	}
)

// stepOf is what Step is to tell, read off steps.
func stepOf(state, flags int) int {
	bit := func(place int) int { return ((flags>>place)%2 + 2) % 2 }
	if state == datagrams {
		return datagrams
	}
	if bit(0)+bit(2) > 0 {
		return closing
	}
	if state < opening || state > datagrams {
		return state
	}
	return steps[bit(1)][bit(4)][state]
}

// ahead tells whether a flow stands ahead of another one: the first part in which they differ tells.
func ahead(f, g api.Flow) bool {
	if f.Proto != g.Proto {
		return f.Proto < g.Proto
	}
	if f.From != g.From {
		return aheadBytes(f.From, g.From)
	}
	if f.Port != g.Port {
		return f.Port < g.Port
	}
	if f.To != g.To {
		return aheadBytes(f.To, g.To)
	}
	return f.Dest < g.Dest
}

func aheadBytes(a, b api.Addr) bool {
	for at := 0; at < len(a) && at < len(b); at++ {
		if a[at] != b[at] {
			return a[at] < b[at]
		}
	}
	return len(a) < len(b)
}

// plain is a plain reading of the chapter: a list without order and without places, which is gone
// through whenever it is asked.
type plain struct {
	list []flows.Entry
}

func (p *plain) at(f api.Flow) int {
	for at, e := range p.list {
		if alike(e.Flow, f) {
			return at
		}
	}
	return -1
}

func (p *plain) get(f api.Flow) (flows.Entry, bool) {
	if at := p.at(f); at >= 0 {
		return p.list[at], true
	}
	return flows.Entry{}, false
}

func (p *plain) lay(e flows.Entry) {
	p.drop(e.Flow)
	p.list = append(p.list, e)
}

func (p *plain) full(f api.Flow) bool {
	return len(p.list) == most && p.at(f) < 0
}

func (p *plain) open(f api.Flow, backend, flags, now int) api.Errno {
	if backend < 0 || backend > 15 || now < 0 || now > lastNow {
		return 1
	}
	if p.full(f) {
		return 100
	}
	state := datagrams
	if f.Proto == 6 {
		state = stepOf(opening, flags)
	}
	p.lay(flows.Entry{Flow: f, Backend: backend, State: state, Ends: now + lives[state]})
	return 0
}

func (p *plain) put(e flows.Entry, now int) api.Errno {
	if e.Backend < 0 || e.Backend > 15 || lives[e.State] == 0 || e.Ends < 0 || e.Ends > clock || now < 0 || now > lastNow {
		return 1
	}
	if p.full(e.Flow) {
		return 100
	}
	if e.Ends <= now {
		p.drop(e.Flow)
		return 101
	}
	p.lay(e)
	return 0
}

func (p *plain) see(f api.Flow, flags, now int) (flows.Entry, bool) {
	e, is := p.get(f)
	if !is || now < 0 || now > lastNow {
		return flows.Entry{}, false
	}
	e.State = stepOf(e.State, flags)
	e.Ends = now + lives[e.State]
	p.lay(e)
	return e, true
}

func (p *plain) drop(f api.Flow) bool {
	at := p.at(f)
	if at < 0 {
		return false
	}
	p.list = append(p.list[:at:at], p.list[at+1:]...)
	return true
}

func (p *plain) expire(now int) []flows.Entry {
	var told []flows.Entry
	for {
		first := -1
		for at, e := range p.list {
			if e.Ends <= now && (first < 0 || e.Ends < p.list[first].Ends || e.Ends == p.list[first].Ends && ahead(e.Flow, p.list[first].Flow)) {
				first = at
			}
		}
		if first < 0 {
			return told
		}
		told = append(told, p.list[first])
		p.drop(p.list[first].Flow)
	}
}

// all takes the list's entries one by one: each is laid ahead of the first one that it stands ahead of.
func (p *plain) all() []flows.Entry {
	var told []flows.Entry
	for _, e := range p.list {
		at := 0
		for at < len(told) && ahead(told[at].Flow, e.Flow) {
			at++
		}
		told = slices.Insert(told, at, e)
	}
	return told
}

// watched is tables, one by each key, beside the plain reading. Behind each call all is asked of all:
// Len, All, and Get of the flows that are asked.
type watched struct {
	t      *testing.T
	what   string
	tables []*flows.Table
	p      plain
	asked  []api.Flow
	calls  int
}

func watch(t *testing.T, what string, asked ...api.Flow) *watched {
	t.Helper()
	b := &watched{t: t, what: what, asked: append([]api.Flow{{}}, asked...)}
	for _, k := range keys {
		b.tables = append(b.tables, flows.New(k))
	}
	b.look("New")
	return b
}

func (b *watched) fail(promise, call string, key int, got, want any) {
	b.t.Helper()
	b.t.Fatalf("%s: %s: call %d, %s, key %d: %v, not %v", promise, b.what, b.calls, call, key, got, want)
}

func (b *watched) look(call string) {
	b.t.Helper()
	b.calls++
	all := b.p.all()
	if len(all) > most {
		b.fail("P10.4", call, -1, len(all), most)
	}
	var wants []flows.Entry
	for _, f := range b.asked {
		e, _ := b.p.get(f)
		wants = append(wants, e)
	}
	for key, x := range b.tables {
		if many := x.Len(); many != len(all) {
			b.fail("P10.1", call+": Len", key, many, len(all))
		}
		if told := x.All(); !sameAll(told, all) {
			b.fail("P10.1", call+": All", key, told, all)
		}
		for at, f := range b.asked {
			// Every entry has a State: without one it is none.
			if e, is := x.Get(f); !same(e, wants[at]) || is != (wants[at].State > 0) {
				b.fail("P10.4", call+": Get", key, e, wants[at])
			}
		}
	}
}

func (b *watched) open(f api.Flow, backend, flags, now int) api.Errno {
	b.t.Helper()
	want := b.p.open(f, backend, flags, now)
	for key, x := range b.tables {
		if e := x.Open(f, backend, flags, now); e != want {
			b.fail("P10.2", "Open", key, e, want)
		}
	}
	b.look("Open")
	return want
}

func (b *watched) put(e flows.Entry, now int) api.Errno {
	b.t.Helper()
	want := b.p.put(e, now)
	for key, x := range b.tables {
		if errno := x.Put(e, now); errno != want {
			b.fail("P10.2", "Put", key, errno, want)
		}
	}
	b.look("Put")
	return want
}

func (b *watched) see(f api.Flow, flags, now int) (flows.Entry, bool) {
	b.t.Helper()
	want, wanted := b.p.see(f, flags, now)
	for key, x := range b.tables {
		if e, is := x.See(f, flags, now); !same(e, want) || is != wanted {
			b.fail("P10.3", "See", key, e, want)
		}
	}
	b.look("See")
	return want, wanted
}

func (b *watched) drop(f api.Flow) bool {
	b.t.Helper()
	want := b.p.drop(f)
	for key, x := range b.tables {
		if is := x.Drop(f); is != want {
			b.fail("P10.3", "Drop", key, is, want)
		}
	}
	b.look("Drop")
	return want
}

func (b *watched) expire(now int) []flows.Entry {
	b.t.Helper()
	want := b.p.expire(now)
	for key, x := range b.tables {
		if told := x.Expire(now); !sameAll(told, want) {
			b.fail("P10.3", "Expire", key, told, want)
		}
	}
	b.look("Expire")
	return want
}

// hold fails unless what was told is what the test says.
func (b *watched) hold(promise string, got, want any) {
	b.t.Helper()
	if got != want {
		b.fail(promise, "this call", -1, got, want)
	}
}

// The flows of which the tests are made.
func tcp(n int) api.Flow {
	return api.Flow{Proto: 6, From: "\x0a\x00\x00\x01", To: "\x0a\x00\x00\x02", Port: n, Dest: 80}
}

func udp(n int) api.Flow {
	return api.Flow{Proto: 17, From: "\x0a\x00\x00\x01", To: "\x0a\x00\x00\x02", Port: n, Dest: 53}
}

// pool is so many flows, all of their own.
func pool(many int) []api.Flow {
	var told []api.Flow
	for n := range many {
		f := udp(n / 2)
		if n%2 == 0 {
			f = tcp(1000 - n)
		}
		told = append(told, f)
	}
	return told
}

// crowd is so many flows of one hash, by every key: they differ in what does not go into it.
func crowd(many int) []api.Flow {
	var told []api.Flow
	for n := range many {
		f := tcp(7)
		switch n % 3 {
		case 0:
			f.Port += 65536 * n
		case 1:
			f.Dest -= 65536 * n
		default:
			f.Proto += 256 * n
		}
		told = append(told, f)
	}
	return told
}

// near is flows that differ from one another in one part alone, and in one byte of an address.
func near() []api.Flow {
	four := api.Flow{Proto: 6, From: "\x0a\x00\x00\x01", To: "\x0a\x00\x00\x02", Port: 40000, Dest: 80}
	six := api.Flow{Proto: 6, From: api.Addr("\xfe\x80" + strings.Repeat("\x00", 14)), To: api.Addr("\x20" + strings.Repeat("\x01", 15)), Port: 1, Dest: 2}
	told := []api.Flow{four, six, {}}
	for _, f := range []api.Flow{four, six} {
		for _, g := range []api.Flow{{Proto: 1}, {Port: 1}, {Dest: 1}, {Proto: -7}, {Port: -40001}, {Dest: -81}, {Port: 65536}, {Dest: 65536}, {Proto: 256}} {
			told = append(told, api.Flow{Proto: f.Proto + g.Proto, From: f.From, To: f.To, Port: f.Port + g.Port, Dest: f.Dest + g.Dest})
		}
		turned := api.Flow{Proto: f.Proto, From: f.To, To: f.From, Port: f.Dest, Dest: f.Port}
		told = append(told, turned, api.Flow{Proto: f.Proto, From: f.To, To: f.From, Port: f.Port, Dest: f.Dest})
		told = append(told, api.Flow{Proto: f.Proto, From: f.From, To: f.To, Port: f.Dest, Dest: f.Port})
	}
	for at := range len(four.From) {
		f, g := four, four
		f.From, g.To = other(four.From, at), other(four.To, at)
		told = append(told, f, g)
	}
	for at := range len(six.From) {
		f := six
		if at%2 == 0 {
			f.From = other(six.From, at)
		} else {
			f.To = other(six.To, at)
		}
		told = append(told, f)
	}
	// These have one text between them, so one hash, but other addresses.
	return append(told, api.Flow{From: "a\x00b"}, api.Flow{From: "a", To: "b\x00"}, api.Flow{From: "a"}, api.Flow{From: "a\x00"}, api.Flow{To: "a"})
}

// other is an address of which one byte is another one.
func other(a api.Addr, at int) api.Addr {
	b := []byte(a)
	b[at] ^= 0x80
	return api.Addr(b)
}

// fill opens so many flows, all to one backend.
func (b *watched) fill(l []api.Flow, now int) {
	b.t.Helper()
	for _, f := range l {
		b.hold("P10.2", b.open(f, 7, 0, now), api.OK)
	}
}

// TestExamples is of the chapter's examples.
func TestExamples(t *testing.T) {
	x, f := flows.New(sip.Number(1)), tcp(1)
	if e := x.Open(f, 3, syn, 100); e != api.OK {
		t.Error("P10.2:", e)
	}
	if e, is := x.Get(f); !is || e != (flows.Entry{Flow: f, Backend: 3, State: 1, Ends: 160}) {
		t.Error("P10.1:", e, is)
	}
	if e, is := x.See(f, ack, 110); !is || e != (flows.Entry{Flow: f, Backend: 3, State: 2, Ends: 1010}) {
		t.Error("P10.3:", e, is)
	}
	if e, is := x.See(f, fin, 120); !is || e != (flows.Entry{Flow: f, Backend: 3, State: 3, Ends: 150}) {
		t.Error("P10.3:", e, is)
	}
	if l := x.Expire(150); len(l) != 1 || l[0] != (flows.Entry{Flow: f, Backend: 3, State: 3, Ends: 150}) {
		t.Error("P10.3:", l)
	}
	if e, is := x.Get(f); is || e != (flows.Entry{}) || x.Len() != 0 || len(x.All()) != 0 {
		t.Error("P10.3: what expired is there:", e)
	}
}

// TestNew is of a table that nothing was laid into.
func TestNew(t *testing.T) {
	for key, k := range keys {
		x := flows.New(k)
		if x == nil || x.Len() != 0 || len(x.All()) != 0 || len(x.Expire(math.MaxInt)) != 0 {
			t.Fatal("P10.1: key", key)
		}
		for _, f := range near() {
			if e, is := x.Get(f); is || e != (flows.Entry{}) {
				t.Error("P10.1: key", key, f, e)
			}
			if e, is := x.See(f, ack, 0); is || e != (flows.Entry{}) || x.Drop(f) {
				t.Error("P10.3: key", key, f, e)
			}
		}
	}
}

// TestLife is of every state and of numbers that are none.
func TestLife(t *testing.T) {
	for state := -300; state <= 300; state++ {
		if life := flows.Life(state); life != lives[state] {
			t.Errorf("P10.2: Life(%d) is %d", state, life)
		}
	}
	for _, state := range far {
		if life := flows.Life(state); life != 0 {
			t.Errorf("P10.2: Life(%d) is %d", state, life)
		}
	}
}

// TestStep is of every state, and of numbers that are none, with every set of flags, with bits beyond
// them, and with numbers below 0.
func TestStep(t *testing.T) {
	states := append([]int{-1, 0, 1, 2, 3, 4, 5, 6}, far...)
	for _, state := range states {
		for flags := -130; flags < 300; flags++ {
			if behind := flows.Step(state, flags); behind != stepOf(state, flags) {
				t.Errorf("P10.3: Step(%d, %d) is %d, not %d", state, flags, behind, stepOf(state, flags))
			}
		}
		for _, flags := range far {
			if behind := flows.Step(state, flags); behind != stepOf(state, flags) {
				t.Errorf("P10.3: Step(%d, %d) is %d, not %d", state, flags, behind, stepOf(state, flags))
			}
		}
	}
}

// TestStepByHand is of steps that were worked out by hand.
func TestStepByHand(t *testing.T) {
	for _, x := range []struct{ state, flags, behind int }{
		{1, 0, 1}, {1, syn, 1}, {1, ack, 2}, {1, syn | ack, 1}, {1, fin, 3}, {1, rst, 3}, {1, psh | urg, 1}, {1, psh | ack, 2}, {1, fin | ack, 3}, {1, rst | ack, 3}, {1, fin | syn, 3},
		{2, 0, 2}, {2, syn, 2}, {2, ack, 2}, {2, syn | ack, 2}, {2, fin, 3}, {2, rst, 3}, {2, fin | rst, 3}, {2, psh | urg | ack, 2}, {2, fin | ack | psh, 3},
		{3, 0, 3}, {3, syn, 1}, {3, ack, 3}, {3, syn | ack, 3}, {3, fin, 3}, {3, rst, 3}, {3, syn | fin, 3}, {3, syn | rst, 3}, {3, syn | psh | urg, 1},
		{4, 0, 4}, {4, syn, 4}, {4, ack, 4}, {4, fin, 4}, {4, rst, 4}, {4, 63, 4},
		{0, 0, 0}, {0, ack, 0}, {0, fin, 3}, {5, syn, 5}, {5, ack, 5}, {5, rst, 3}, {-1, 0, -1},
	} {
		if behind := flows.Step(x.state, x.flags); behind != x.behind {
			t.Errorf("P10.3: Step(%d, %d) is %d, not %d", x.state, x.flags, behind, x.behind)
		}
	}
}

// TestHashKnown is of answers that were worked out in another language.
func TestHashKnown(t *testing.T) {
	counted := sip.Key{0, 1, 2, 3, 4, 5, 6, 7, 8, 9, 10, 11, 12, 13, 14, 15}
	six := api.Addr("\xfe\x80" + strings.Repeat("\x00", 13) + "\x01")
	sixTo := api.Addr("\x20\x01\x0d\xb8" + strings.Repeat("\x00", 11) + "\x02")
	for n, x := range []struct {
		f                     api.Flow
		counted, five, zeroes uint64
	}{
		{api.Flow{Proto: 6, From: "\x0a\x00\x00\x01", To: "\x0a\x00\x00\x02", Port: 40000, Dest: 80}, 0x490520f8b97d4ddb, 0x3b68719b73cf2c4c, 0x3f2ef765dd8dff47},
		{api.Flow{Proto: 17, From: "\x0a\x00\x00\x01", To: "\x0a\x00\x00\x02", Port: 53, Dest: 99}, 0xe01b486995107a60, 0xb374064c22eeee2e, 0xce77c3e46f6c1903},
		{api.Flow{Proto: 6, From: six, To: sixTo, Port: 40000, Dest: 443}, 0xb1c88ba960f453e6, 0x5f298a396d3cb46d, 0xfd42cf7aeba89837},
		{api.Flow{}, 0xaab82dae3354313a, 0x2a0b4a19c0cc06ff, 0x85f896b6040a13ec},
		{api.Flow{Proto: 262, From: "a", To: "b", Port: 65537, Dest: -1}, 0x25f9b031a9c7ccc2, 0xf25875298c86e6c6, 0x92c66a511c52bba4},
		{api.Flow{Proto: -1, From: "a", To: "b", Port: 0x1234, Dest: 0xfedc}, 0x838c5c8e6f587fcf, 0xa189ca456fb0307d, 0xf80ccdca8261da29},
	} {
		if got := flows.Hash(counted, x.f); got != x.counted {
			t.Errorf("P10.1: Hash of %d by 00 01 .. is %x", n, got)
		}
		if got := flows.Hash(sip.Number(5), x.f); got != x.five {
			t.Errorf("P10.1: Hash of %d by 5 is %x", n, got)
		}
		if got := flows.Hash(sip.Key{}, x.f); got != x.zeroes {
			t.Errorf("P10.1: Hash of %d by 0 is %x", n, got)
		}
	}
}

// lowest is the remainder of a number by another one, that is not below 0.
func lowest(n, by int) byte {
	return byte((n%by + by) % by / (by / 256))
}

// TestHash is of the text that goes into it, laid byte by byte, also where only the lowest bits count.
func TestHash(t *testing.T) {
	numbers := append([]int{-65537, -257, -256, -1, 0, 1, 2, 127, 128, 254, 255, 256, 257, 4660, 65280, 65535, 65536, 65537}, far...)
	addrs := []api.Addr{"", "\x00", "a", "\x00\x00", "\x0a\x00\x00\x01", "\xff\xff\xff\xff", api.Addr(strings.Repeat("\x80", 16)), api.Addr(strings.Repeat("long", 100))}
	for n, k := range keys {
		for at, number := range numbers {
			f := api.Flow{Proto: number, From: addrs[at%len(addrs)], To: addrs[(at+n+1)%len(addrs)], Port: numbers[(at+5)%len(numbers)], Dest: numbers[(at*3+7)%len(numbers)]}
			var text strings.Builder
			text.WriteByte(lowest(f.Proto, 256))
			text.WriteString(string(f.From))
			text.WriteByte(0)
			text.WriteString(string(f.To))
			text.WriteByte(0)
			text.Write([]byte{lowest(f.Port, 65536), lowest(f.Port, 256), lowest(f.Dest, 65536), lowest(f.Dest, 256)})
			if got, want := flows.Hash(k, f), sip.Text(k, text.String()); got != want || flows.Hash(k, f) != want {
				t.Errorf("P10.1: Hash by key %d of %v is %x, not %x", n, f, got, want)
			}
		}
	}
}

// TestHashAlike is of flows that have one hash, and of ones that have not.
func TestHashAlike(t *testing.T) {
	for n, k := range keys {
		one := flows.Hash(k, tcp(7))
		for _, f := range crowd(90) {
			if flows.Hash(k, f) != one {
				t.Errorf("P10.1: key %d: %v has another hash", n, f)
			}
		}
		if flows.Hash(k, api.Flow{From: "a\x00b"}) != flows.Hash(k, api.Flow{From: "a", To: "b\x00"}) {
			t.Errorf("P10.1: key %d: one text has two hashes", n)
		}
		for _, f := range []api.Flow{tcp(8), tcp(7 + 256), udp(7), {Proto: 6, From: "\x0a\x00\x00\x02", To: "\x0a\x00\x00\x01", Port: 7, Dest: 80}} {
			if flows.Hash(k, f) == one {
				t.Errorf("P10.1: key %d: %v has the same hash", n, f)
			}
		}
	}
	if flows.Hash(keys[0], tcp(7)) == flows.Hash(keys[1], tcp(7)) {
		t.Error("P10.1: two keys, one hash")
	}
}

// TestOpenStates is of the state and the end of what is opened, by every set of flags.
func TestOpenStates(t *testing.T) {
	for flags := -64; flags < 192; flags++ {
		b := watch(t, "states", tcp(1), udp(1))
		b.open(tcp(1), 0, flags, 1000)
		for _, proto := range []int{0, 1, 4, 5, 7, 17, 58, 262, -6, -250, 6 + 1<<32} {
			f := tcp(1)
			f.Proto = proto
			b.open(f, 15, flags, 1000)
			if e, is := b.tables[0].Get(f); !is || e.State != 4 || e.Ends != 1120 {
				t.Fatal("P10.2:", proto, flags, e)
			}
		}
	}
	for _, x := range []struct{ flags, state, ends int }{{0, 1, 160}, {syn, 1, 160}, {ack, 2, 1000}, {syn | ack, 1, 160}, {fin, 3, 130}, {rst, 3, 130}, {63, 3, 130}, {psh, 1, 160}} {
		b := watch(t, "by hand", tcp(1))
		b.open(tcp(1), 2, x.flags, 100)
		e, is := b.tables[1].Get(tcp(1))
		if !is || e.State != x.state || e.Backend != 2 || e.Flow != tcp(1) || e.Ends != x.ends {
			t.Error("P10.2:", x, e)
		}
	}
}

// TestBackends is of all backends that there are, and of numbers that are none's.
func TestBackends(t *testing.T) {
	b := watch(t, "backends", tcp(1), udp(1), udp(2))
	b.open(tcp(1), 9, ack, 5)
	for backend := -20; backend <= 40; backend++ {
		want := api.OK
		if backend < 0 || backend >= backends {
			want = api.ErrArg
		}
		for _, f := range []api.Flow{udp(1), udp(2), tcp(1)} {
			b.hold("P10.2", b.open(f, backend, 0, 10), want)
			b.hold("P10.2", b.put(flows.Entry{Flow: f, Backend: backend, State: 4, Ends: 99}, 10), want)
			b.drop(udp(1))
		}
	}
	for _, backend := range far {
		b.hold("P10.2", b.open(tcp(1), backend, 0, 10), api.ErrArg)
		b.hold("P10.2", b.put(flows.Entry{Flow: tcp(1), Backend: backend, State: 4, Ends: 99}, 10), api.ErrArg)
		b.hold("P10.2", b.put(flows.Entry{Flow: tcp(1), Backend: backend, State: 4, Ends: 9}, 10), api.ErrArg)
	}
	e, is := b.tables[0].Get(tcp(1))
	b.hold("P10.2", is && e == flows.Entry{Flow: tcp(1), Backend: 15, State: 4, Ends: 99}, true)
}

// TestTimes is of now at its edges and far from them, for all calls that have one.
func TestTimes(t *testing.T) {
	times := append([]int{-1, 0, 1, lastNow - 1, lastNow, lastNow + 1, clock - 900, clock - 1, clock, clock + 1}, far...)
	for _, now := range times {
		b := watch(t, "times", tcp(1), tcp(2), udp(1), udp(2))
		b.open(tcp(1), 1, ack, 500)
		b.open(udp(1), 2, 0, 500)
		errno := api.OK
		if now < 0 || now > lastNow {
			errno = api.ErrArg
		}
		for _, f := range []api.Flow{tcp(1), tcp(2), udp(1), udp(2)} {
			_, is := b.see(f, fin, now)
			b.hold("P10.3", is, errno == api.OK && f.Port == 1)
			b.hold("P10.2", b.open(f, 3, syn, now), errno)
			b.hold("P10.2", b.put(flows.Entry{Flow: f, Backend: 4, State: 2, Ends: clock}, now), errno)
		}
		b.hold("P10.1", b.tables[0].Len() == 4, errno == api.OK)
		b.expire(now)
	}
}

// TestStates is of the states that may be put, and of numbers that are none.
func TestStates(t *testing.T) {
	b := watch(t, "states", tcp(1), tcp(2), udp(1))
	b.open(tcp(1), 1, syn, 0)
	for state := -3; state <= 8; state++ {
		want := api.ErrArg
		if state >= 1 && state <= 4 {
			want = api.OK
		}
		for _, f := range []api.Flow{tcp(1), tcp(2), udp(1)} {
			b.hold("P10.2", b.put(flows.Entry{Flow: f, Backend: 5, State: state, Ends: 100 + state}, 10), want)
		}
		// The state is what was put, whatever the Proto; See goes on from there.
		b.see(udp(1), ack, 20)
		b.see(tcp(2), fin, 20)
		b.drop(tcp(2))
	}
	for _, state := range far {
		b.hold("P10.2", b.put(flows.Entry{Flow: tcp(1), State: state, Ends: 99}, 0), api.ErrArg)
		b.hold("P10.2", b.put(flows.Entry{Flow: tcp(2), State: state, Ends: 0}, 0), api.ErrArg)
	}
}

// TestEnds is of Ends at its edges, and about now.
func TestEnds(t *testing.T) {
	for _, now := range []int{0, 1, 50, lastNow} {
		b := watch(t, "ends", tcp(1), tcp(2), udp(1))
		edges := append([]int{-1, 0, 1, now - 1, now, now + 1, now + 1000, lastNow, clock - 1, clock, clock + 1}, far...)
		for _, ends := range edges {
			want := api.OK
			if ends < 0 || ends > clock {
				want = api.ErrArg
			} else if ends <= now {
				want = api.ErrFlowsNone
			}
			b.open(tcp(1), 3, ack, now)
			b.drop(tcp(2))
			b.hold("P10.2", b.put(flows.Entry{Flow: tcp(1), Backend: 9, State: 3, Ends: ends}, now), want)
			b.hold("P10.2", b.put(flows.Entry{Flow: tcp(2), Backend: 9, State: 3, Ends: ends}, now), want)
			e, is := b.tables[0].Get(tcp(1))
			b.hold("P10.2", is, want != api.ErrFlowsNone)
			b.hold("P10.2", is && e.Backend == 3, want == api.ErrArg)
		}
	}
}

// TestRefused is of calls with several faults: the answer is the one named first, and what a flow has
// stays as it was, but where an ended entry is put.
func TestRefused(t *testing.T) {
	l := pool(most + 1)
	b := watch(t, "refused", l...)
	b.fill(l[:most], 10)
	one, more := l[5], l[most]
	for _, x := range []struct {
		what string
		got  api.Errno
		want api.Errno
	}{
		{"Open of one more", b.open(more, 1, 0, 10), api.ErrFlowsFull},
		{"Open of one more, backend 16", b.open(more, 16, 0, 10), api.ErrArg},
		{"Open of one more, now -1", b.open(more, 1, 0, -1), api.ErrArg},
		{"Open of one, backend -1", b.open(one, -1, 0, 10), api.ErrArg},
		{"Open of one, too late", b.open(one, 1, 0, lastNow+1), api.ErrArg},
		{"Put of one more", b.put(flows.Entry{Flow: more, State: 1, Ends: 99}, 10), api.ErrFlowsFull},
		{"Put of one more that has ended", b.put(flows.Entry{Flow: more, State: 1, Ends: 10}, 10), api.ErrFlowsFull},
		{"Put of one more, state 5", b.put(flows.Entry{Flow: more, State: 5, Ends: 10}, 10), api.ErrArg},
		{"Put of one, state 0", b.put(flows.Entry{Flow: one, State: 0, Ends: 10}, 10), api.ErrArg},
		{"Put of one that has ended, backend 16", b.put(flows.Entry{Flow: one, Backend: 16, State: 1, Ends: 10}, 10), api.ErrArg},
		{"Put of one that has ended, now -1", b.put(flows.Entry{Flow: one, State: 1, Ends: 0}, -1), api.ErrArg},
		{"Put of one, Ends -1", b.put(flows.Entry{Flow: one, State: 1, Ends: -1}, 10), api.ErrArg},
	} {
		if x.got != x.want {
			t.Errorf("P10.2: %s: %d, not %d", x.what, x.got, x.want)
		}
	}
	b.hold("P10.4", sameAll(b.tables[0].All(), b.p.all()) && len(b.p.list) == most, true)
	b.hold("P10.2", b.put(flows.Entry{Flow: one, State: 1, Ends: 10}, 10), api.ErrFlowsNone)
	b.hold("P10.2", b.tables[0].Len(), most-1)
	b.hold("P10.2", b.put(flows.Entry{Flow: one, State: 1, Ends: 10}, 10), api.ErrFlowsNone)
	b.hold("P10.2", b.put(flows.Entry{Flow: more, State: 1, Ends: 10}, 10), api.ErrFlowsNone)
	b.hold("P10.2", b.put(flows.Entry{Flow: more, State: 1, Ends: 11}, 10), api.OK)
	b.hold("P10.2", b.open(one, 1, 0, 10), api.ErrFlowsFull)
}

// TestAgain is of a flow that has an entry, and is opened or put once more: it has the later one.
func TestAgain(t *testing.T) {
	b := watch(t, "again", tcp(1), udp(1))
	b.open(tcp(1), 3, ack, 100)
	b.open(udp(1), 4, 0, 100)
	b.open(tcp(1), 5, syn, 50)
	b.hold("P10.2", b.p.list[b.p.at(tcp(1))], flows.Entry{Flow: tcp(1), Backend: 5, State: 1, Ends: 110})
	b.put(flows.Entry{Flow: tcp(1), Backend: 6, State: 4, Ends: 7}, 6)
	b.put(flows.Entry{Flow: udp(1), Backend: 7, State: 2, Ends: 8}, 6)
	b.hold("P10.1", b.tables[0].Len(), 2)
	b.open(udp(1), 8, 0, 0)
	b.hold("P10.2", b.p.list[b.p.at(udp(1))], flows.Entry{Flow: udp(1), Backend: 8, State: 4, Ends: 120})
	b.hold("P10.1", b.tables[0].Len(), 2)
}

// TestFull is of a table of as many flows as there may be, of flows of their own and of ones of one hash.
func TestFull(t *testing.T) {
	for _, x := range []struct {
		what string
		l    []api.Flow
	}{{"a pool", pool(most + 8)}, {"a crowd", crowd(most + 8)}} {
		b := watch(t, x.what, x.l...)
		b.fill(x.l[:most], 0)
		b.hold("P10.4", b.tables[0].Len(), most)
		for _, f := range x.l[most:] {
			b.hold("P10.2", b.open(f, 1, 0, 0), api.ErrFlowsFull)
			b.hold("P10.2", b.put(flows.Entry{Flow: f, Backend: 1, State: 1, Ends: 50}, 0), api.ErrFlowsFull)
		}
		for n, f := range x.l[:most] {
			b.hold("P10.2", b.open(f, n%backends, 0, n), api.OK)
			b.hold("P10.2", b.put(flows.Entry{Flow: f, Backend: n % backends, State: 1 + n%4, Ends: 1000 + n}, 0), api.OK)
		}
		b.hold("P10.3", b.drop(x.l[30]), true)
		b.hold("P10.2", b.open(x.l[most], 1, 0, 0), api.OK)
		b.hold("P10.2", b.open(x.l[30], 1, 0, 0), api.ErrFlowsFull)
		b.hold("P10.3", len(b.expire(1009)), 11)
		for _, f := range x.l[most+1:] {
			b.hold("P10.2", b.put(flows.Entry{Flow: f, Backend: 1, State: 1, Ends: 5000}, 0), api.OK)
		}
		b.hold("P10.2", b.tables[0].Len(), most-4)
		b.hold("P10.3", len(b.expire(clock)), most-4)
		b.fill(x.l[8:], 0)
	}
}

// TestNear is of flows that differ in one part, or in one byte of an address: each has an entry of its own.
func TestNear(t *testing.T) {
	l := near()
	if len(l) > most {
		t.Fatal("too many:", len(l))
	}
	for n, f := range l {
		for _, g := range l[:n] {
			if alike(f, g) {
				t.Fatal("twice:", f)
			}
		}
	}
	b := watch(t, "near", l...)
	for n, f := range l {
		b.hold("P10.2", b.open(f, n%backends, 0, 100*n), api.OK)
	}
	b.hold("P10.1", b.tables[0].Len(), len(l))
	for n, f := range l {
		b.see(f, ack, 100*n)
	}
	for _, f := range l {
		b.hold("P10.3", b.drop(f), true)
		b.hold("P10.3", b.drop(f), false)
	}
}

// TestOrder is of flows of which the order was written down by hand.
func TestOrder(t *testing.T) {
	l := []api.Flow{
		{Proto: math.MinInt},
		{Proto: -1, From: "z"},
		{Proto: 0, To: "a"},
		{Proto: 5, From: "\xff", To: "\xff", Port: 9, Dest: 9},
		{Proto: 6, From: "", To: "z", Port: 65535, Dest: 9},
		{Proto: 6, From: "\x00", To: "", Port: 0, Dest: 0},
		{Proto: 6, From: "\x01\x02\x03\x04", To: "b", Port: -5, Dest: 1},
		{Proto: 6, From: "\x01\x02\x03\x04", To: "b", Port: 2, Dest: 9},
		{Proto: 6, From: "\x01\x02\x03\x04", To: "a", Port: 10, Dest: 9},
		{Proto: 6, From: "\x01\x02\x03\x04", To: "b", Port: 10, Dest: -1},
		{Proto: 6, From: "\x01\x02\x03\x04", To: "b", Port: 10, Dest: 2},
		{Proto: 6, From: "\x01\x02\x03\x04", To: "b", Port: 10, Dest: 10},
		{Proto: 6, From: "\x01\x02\x03\x04", To: "ba", Port: 10, Dest: 0},
		{Proto: 6, From: "\x01\x02\x03\x04", To: "a", Port: 65536, Dest: 0},
		{Proto: 6, From: "\x01\x02\x03\x04\x00", To: "", Port: 1, Dest: 0},
		{Proto: 6, From: "\x01\x02\x03\x05", To: "", Port: 0, Dest: 0},
		{Proto: 6, From: "\x7f", To: "", Port: 0, Dest: 0},
		{Proto: 6, From: "\x80", To: "", Port: 0, Dest: 0},
		{Proto: 6, From: "\xff", To: "", Port: 0, Dest: 0},
		{Proto: 17, From: "\x00", To: "", Port: 0, Dest: 0},
		{Proto: 262},
		{Proto: math.MaxInt},
	}
	for turn := range 20 {
		given := slices.Clone(l)
		rand.New(rand.NewSource(int64(turn))).Shuffle(len(given), func(n, m int) { given[n], given[m] = given[m], given[n] })
		x, y := flows.New(keys[turn%len(keys)]), flows.New(keys[turn%len(keys)])
		for n, f := range given {
			x.Open(f, n%backends, 0, 1000-n)
			y.Put(flows.Entry{Flow: f, State: 1, Ends: 70}, 0)
		}
		all, ended := x.All(), y.Expire(70)
		if len(all) != len(l) || len(ended) != len(l) {
			t.Fatal("P10.1:", len(all), len(ended))
		}
		for at, f := range l {
			if all[at].Flow != f {
				t.Errorf("P10.1: All: at %d is %v, not %v", at, all[at].Flow, f)
			}
			if ended[at].Flow != f {
				t.Errorf("P10.3: Expire: at %d is %v, not %v", at, ended[at].Flow, f)
			}
		}
	}
}

// TestSee is of a flow's packets one behind the other, of what is not there, and of what is no more.
func TestSee(t *testing.T) {
	b := watch(t, "see", tcp(1), tcp(2), udp(1))
	b.open(tcp(1), 3, syn, 100)
	b.open(udp(1), 4, syn, 100)
	for _, x := range []struct{ flags, now, state, ends int }{
		{0, 101, 1, 161}, {syn | ack, 110, 1, 170}, {ack, 105, 2, 1005}, {ack | psh, 106, 2, 1006}, {syn, 107, 2, 1007}, {fin | ack, 108, 3, 138},
		{ack, 109, 3, 139}, {fin, 50, 3, 80}, {syn, 60, 1, 120}, {rst, 61, 3, 91}, {syn, 62, 1, 122}, {ack, 0, 2, 900}, {ack, lastNow, 2, clock - 100},
	} {
		e, is := b.see(tcp(1), x.flags, x.now)
		b.hold("P10.3", is && e == flows.Entry{Flow: tcp(1), Backend: 3, State: x.state, Ends: x.ends}, true)
		e, is = b.see(udp(1), x.flags, x.now)
		b.hold("P10.3", is && e == flows.Entry{Flow: udp(1), Backend: 4, State: 4, Ends: x.now + 120}, true)
		_, is = b.see(tcp(2), x.flags, x.now)
		b.hold("P10.3", is, false)
		for _, now := range []int{-1, lastNow + 1, clock, math.MinInt, math.MaxInt} {
			_, is = b.see(tcp(1), fin, now)
			b.hold("P10.3", is, false)
		}
	}
	b.drop(tcp(1))
	_, is := b.see(tcp(1), syn, 100)
	b.hold("P10.3", is, false)
	b.open(tcp(1), 9, syn, 100)
	b.expire(159)
	_, is = b.see(tcp(1), syn, 100)
	b.hold("P10.3", is, true)
	b.expire(160)
	_, is = b.see(tcp(1), syn, 100)
	b.hold("P10.3", is, false)
}

// TestEndedYetThere is of an entry of which the end has passed: it is there till it expires, and may be
// seen, opened and put.
func TestEndedYetThere(t *testing.T) {
	b := watch(t, "ended", tcp(1), udp(1), udp(2))
	b.open(tcp(1), 3, fin, 0)
	b.open(udp(1), 4, 0, 0)
	b.open(udp(2), 5, 0, 100000)
	e, is := b.tables[0].Get(tcp(1))
	b.hold("P10.4", is && e.Ends == 30, true)
	e, is = b.see(tcp(1), syn, 90000)
	b.hold("P10.4", is && e.Backend == 3 && e.State == 1 && e.Ends == 90060, true)
	b.hold("P10.4", b.tables[0].Len(), 3)
	b.hold("P10.3", len(b.expire(90059)), 1)
	b.hold("P10.3", len(b.expire(90060)), 1)
	b.hold("P10.4", b.tables[0].Len(), 1)
}

// TestExpire is of what ends about now, and of nothing and of all.
func TestExpire(t *testing.T) {
	b := watch(t, "expire", pool(40)...)
	for n, f := range pool(40) {
		b.put(flows.Entry{Flow: f, Backend: n % backends, State: 1 + n%4, Ends: 100 + n/4*10}, 0)
	}
	for _, now := range []int{math.MinInt, -1, 0, 1, 98, 99} {
		b.hold("P10.3", len(b.expire(now)), 0)
	}
	b.hold("P10.3", len(b.expire(100)), 4)
	b.hold("P10.3", len(b.expire(100)), 0)
	b.hold("P10.3", len(b.expire(109)), 0)
	b.hold("P10.3", len(b.expire(111)), 4)
	b.hold("P10.3", len(b.expire(99)), 0)
	b.hold("P10.3", len(b.expire(135)), 8)
	b.hold("P10.3", len(b.expire(clock+1)), 24)
	b.hold("P10.3", len(b.expire(math.MaxInt)), 0)
	b.put(flows.Entry{Flow: tcp(1), State: 1, Ends: clock}, 0)
	b.hold("P10.3", len(b.expire(clock-1)), 0)
	b.hold("P10.3", len(b.expire(clock)), 1)
	b.put(flows.Entry{Flow: tcp(1), State: 1, Ends: clock}, 0)
	b.put(flows.Entry{Flow: tcp(2), State: 1, Ends: 1}, 0)
	b.hold("P10.3", len(b.expire(math.MaxInt)), 2)
}

// TestOneEnd is of entries of one end, opened in falling order: they are told in rising order, behind
// those that end ahead of them.
func TestOneEnd(t *testing.T) {
	x := flows.New(keys[1])
	for n := most - 1; n >= 4; n-- {
		x.Open(udp(n), 1, 0, 300)
	}
	for n := range 4 {
		x.Open(udp(n), 1, 0, 299-n)
	}
	told := x.Expire(420)
	if len(told) != most || x.Len() != 0 {
		t.Fatal("P10.3:", len(told), x.Len())
	}
	for at, e := range told {
		port, ends := at, 420
		if at < 4 {
			port, ends = 3-at, 416+at
		}
		if e.Flow != udp(port) || e.Ends != ends || e.State != 4 || e.Backend != 1 {
			t.Errorf("P10.3: at %d is %v", at, e)
		}
	}
}

// TestDrop is of many that are dropped in any order, with the others still found, and taken in again.
func TestDrop(t *testing.T) {
	for turn := range 12 {
		l := pool(most)
		if turn%2 == 1 {
			l = crowd(most)
		}
		r := rand.New(rand.NewSource(int64(turn)))
		b := watch(t, "drop", l...)
		b.fill(l, turn)
		for _, at := range r.Perm(most) {
			b.hold("P10.3", b.drop(l[at]), true)
			b.hold("P10.3", b.drop(l[at]), false)
			if r.Intn(3) == 0 {
				b.open(l[r.Intn(most)], r.Intn(backends), 0, r.Intn(100))
			}
		}
	}
}

// TestLong is of many more flows than a table has room for, one behind the other: what was dropped
// long ago takes no room, and hides nothing.
func TestLong(t *testing.T) {
	for _, stay := range []int{0, 1, 30, most - 1} {
		for key, k := range keys {
			x := flows.New(k)
			for n := range stay {
				x.Open(tcp(n), n%backends, 0, n)
			}
			for n := range 3000 {
				if e := x.Open(udp(n), n%backends, 0, n); e != api.OK {
					t.Fatal("P10.4:", stay, key, n, e)
				}
				if e, is := x.See(udp(n), 0, n+1); !is || e.Backend != n%backends || e.Ends != n+121 {
					t.Fatal("P10.3:", stay, key, n, e)
				}
				who := tcp(n % max(stay, 1))
				if e, is := x.Get(who); is != (stay > 0) || is && e.Flow != who {
					t.Fatal("P10.4:", stay, key, n, e)
				}
				if !x.Drop(udp(n)) || x.Drop(udp(n)) || x.Len() != stay {
					t.Fatal("P10.3:", stay, key, n)
				}
			}
		}
	}
}

// script makes calls of all kinds, by chance of a fixed seed, with the flows of a list.
func script(b *watched, l []api.Flow, calls int, r *rand.Rand) {
	b.t.Helper()
	times := []int{-1, 0, lastNow, lastNow + 1, clock, math.MaxInt}
	states := []int{0, 1, 1, 1, 2, 2, 2, 3, 3, 3, 4, 4, 4, 5}
	now := 0
	for range calls {
		now += r.Intn(8)
		f, backend, flags, at := l[r.Intn(len(l))], r.Intn(backends), r.Intn(64), now
		if r.Intn(40) == 0 {
			at = times[r.Intn(len(times))]
		}
		if r.Intn(40) == 0 {
			backend = []int{-1, backends, math.MinInt, math.MaxInt}[r.Intn(4)]
		}
		if r.Intn(3) > 0 {
			flags &^= fin | rst
		}
		switch r.Intn(12) {
		case 0, 1, 2, 3:
			b.open(f, backend, flags, at)
		case 4, 5, 6:
			b.see(f, flags, at)
		case 7, 8:
			b.put(flows.Entry{Flow: f, Backend: backend, State: states[r.Intn(len(states))], Ends: at + r.Intn(200) - 20}, at)
		case 9, 10:
			b.drop(f)
		default:
			if r.Intn(4) == 0 {
				b.expire(at - 40 + r.Intn(80))
			}
		}
	}
}

// TestScripts is of many calls of all kinds, with few flows, with many, with ones that are near one
// another, and with ones of one hash.
func TestScripts(t *testing.T) {
	for _, x := range []struct {
		what  string
		l     []api.Flow
		calls int
	}{{"few", pool(6), 3000}, {"many", pool(200), 800}, {"near", near(), 800}, {"a crowd", crowd(90), 800}, {"a small crowd", crowd(5), 2000}} {
		for seed := range 2 {
			script(watch(t, x.what, x.l...), x.l, x.calls, rand.New(rand.NewSource(int64(seed))))
		}
	}
}

// TestBusy is of a table that is full, or nearly so, all the time, while flows come and go.
func TestBusy(t *testing.T) {
	for _, l := range [][]api.Flow{pool(80), crowd(80)} {
		r := rand.New(rand.NewSource(9))
		b := watch(t, "busy", l...)
		b.fill(l[:most], 0)
		for n := range 800 {
			if r.Intn(4) == 0 {
				b.drop(l[r.Intn(len(l))])
			}
			b.open(l[r.Intn(len(l))], r.Intn(backends), 0, n)
		}
	}
}

// TestTwo is of two tables side by side: neither knows anything of the other one.
func TestTwo(t *testing.T) {
	one, other := watch(t, "one", pool(30)...), watch(t, "other", pool(30)...)
	for n, f := range pool(30) {
		if n%2 == 0 {
			one.open(f, n%backends, ack, n)
		} else {
			other.put(flows.Entry{Flow: f, Backend: n % backends, State: 2, Ends: 50 + n}, 0)
		}
		one.look("the other one's call")
	}
	other.expire(60)
	one.look("the other one's Expire")
	one.expire(910)
	other.look("the one's Expire")
	one.drop(tcp(1000))
	other.look("the one's Drop")
}

// TestOwn is of lists that were told: to write into one changes nothing else.
func TestOwn(t *testing.T) {
	b := watch(t, "own", pool(30)...)
	for n, f := range pool(30) {
		b.open(f, n%backends, 0, n)
	}
	spoil := func(l []flows.Entry) {
		for at := range l[:cap(l)] {
			l[:cap(l)][at] = flows.Entry{Flow: tcp(999), Backend: -1, State: 9, Ends: -1}
		}
	}
	for _, x := range b.tables {
		first := x.All()
		second := x.All()
		spoil(first)
		if !sameAll(second, b.p.all()) {
			t.Error("P10.1: two lists of All share something")
		}
		spoil(second)
	}
	b.look("All, written into")
	for _, x := range b.tables {
		told := x.Expire(70)
		later := x.All()
		spoil(told)
		if len(told) == 0 || slices.ContainsFunc(later, func(e flows.Entry) bool { return e.Backend < 0 }) {
			t.Error("P10.3: what Expire tells is also All's")
		}
	}
	b.p.expire(70)
	b.look("Expire, written into")
	e, _ := b.tables[0].Get(pool(30)[29])
	e.Backend = 9
	b.look("Get, written into")
	e, _ = b.tables[0].See(pool(30)[29], 0, 29)
	e.Backend = 9
	b.look("See, written into")
}

// TestSameAgain is of the same calls made twice, of which all answers are alike.
func TestSameAgain(t *testing.T) {
	var told [2][]flows.Entry
	for turn := range told {
		x := flows.New(keys[turn])
		r := rand.New(rand.NewSource(3))
		for n := range 2000 {
			f := pool(100)[r.Intn(100)]
			x.Open(f, r.Intn(backends), r.Intn(64), n)
			if r.Intn(3) == 0 {
				x.Drop(pool(100)[r.Intn(100)])
			}
			if n%50 == 0 {
				told[turn] = append(told[turn], x.Expire(n)...)
				told[turn] = append(told[turn], x.All()...)
			}
		}
	}
	if !sameAll(told[0], told[1]) || len(told[0]) < 1000 {
		t.Error("P10.1: the same calls, other answers")
	}
}
