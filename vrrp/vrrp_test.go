package vrrp_test

import (
	"fmt"
	"math"
	"math/rand"
	"slices"
	"strconv"
	"strings"
	"testing"

	"outrider/advert"
	"outrider/api"
	"outrider/vrrp"
)

// The limits and the numbers, as the document says them.
const (
	manyAddrs = 8
	mostPace  = 4095

	isWaiting = 1
	isBackup  = 2
	isMaster  = 3

	isSent    = 1
	isClaimed = 2
)

// Addresses of either kind, each list by rising ones.
const (
	lessFour, fromFour, moreFour = "\x0a\x00\x00\x01", "\x0a\x00\x00\x02", "\x0a\x00\x00\x03"

	lessSix api.Addr = "\xfe\x80\x00\x00\x00\x00\x00\x00\x00\x00\x00\x00\x00\x00\x00\x01"
	fromSix api.Addr = "\xfe\x80\x00\x00\x00\x00\x00\x00\x00\x00\x00\x00\x00\x00\x00\x02"
	moreSix api.Addr = "\xfe\x80\x00\x00\x00\x00\x00\x00\x00\x00\x00\x00\x00\x00\x00\x03"
)

// far is what is no Id, no Priority and no Every, and far from what is one.
var far = []int{math.MinInt, math.MinInt + 1, -1 << 40, -1<<32 - 100, -1 << 32, -1<<32 + 1, -1<<32 + 100, math.MinInt32, -1 << 16, -1<<16 + 100, -4096, -4095, -1000, -256, -255, -100, 1 << 13, 1 << 16, 1<<16 + 1, 1<<16 + 100, math.MaxInt32, 1 << 31, 1 << 32, 1<<32 + 1, 1<<32 + 100, 1 << 40, math.MaxInt - 1, math.MaxInt}

// four is a machine's Config with addresses of 4 bytes, and six with ones of 16.
func four(priority, every int, preempt bool) vrrp.Config {
	return vrrp.Config{Id: 7, Priority: priority, Every: every, Preempt: preempt, From: fromFour, Addrs: []api.Addr{"\x0a\x00\x00\x64"}}
}

func six(priority, every int, preempt bool) vrrp.Config {
	return vrrp.Config{Id: 7, Priority: priority, Every: every, Preempt: preempt, From: fromSix, Addrs: []api.Addr{fromSix, moreSix, moreSix}}
}

// says is an advertisement of the Id 7.
func says(priority, every int) advert.Advert {
	return advert.Advert{Id: 7, Priority: priority, Every: every, Addrs: []api.Addr{"\x0a\x00\x00\x64"}}
}

// write writes a Config out.
func write(c vrrp.Config) string {
	return fmt.Sprintf("{%d %d %d %v %x %x}", c.Id, c.Priority, c.Every, c.Preempt, string(c.From), c.Addrs)
}

// show writes an event out, with all that it has.
func show(e vrrp.Event) string {
	return fmt.Sprintf("%d: %d %d %d %x", e.Kind, e.A.Id, e.A.Priority, e.A.Every, e.A.Addrs)
}

func showAll(events []vrrp.Event) []string {
	var l []string
	for _, e := range events {
		l = append(l, show(e))
	}
	return l
}

// greater holds two addresses against each other, byte by byte.
func greater(one, other api.Addr) bool {
	for at := range one {
		if at == len(other) {
			return true
		}
		if one[at] != other[at] {
			return one[at] > other[at]
		}
	}
	return false
}

// plainSkew is by what a skew falls short of the pace: (priority every) / 256, and if that is no whole
// number, the next one above it.
func plainSkew(priority, every int) int {
	if priority < 0 || priority > 255 || every < 1 || every > mostPace {
		return 0
	}
	short := 0
	for short*256 < priority*every {
		short += max(1, (priority*every-short*256)/256)
	}
	return every - short
}

// What is done behind an advertisement.
const (
	nothing = iota
	soon
	follow
	again
)

// deeds tells what is done, by the state, by whether it preempts, by how the Priority that is heard is to
// its own (0: it is 0), and by whether the address is greater than its own.
func deeds(state int, preempt bool, how string, above bool) int {
	return map[string]int{
		"2 true 0 false": soon, "2 true < false": nothing, "2 true = false": follow, "2 true > false": follow,
		"2 true 0 true": soon, "2 true < true": nothing, "2 true = true": follow, "2 true > true": follow,
		"2 false 0 false": soon, "2 false < false": follow, "2 false = false": follow, "2 false > false": follow,
		"2 false 0 true": soon, "2 false < true": follow, "2 false = true": follow, "2 false > true": follow,
		"3 true 0 false": again, "3 true < false": nothing, "3 true = false": nothing, "3 true > false": follow,
		"3 true 0 true": again, "3 true < true": nothing, "3 true = true": follow, "3 true > true": follow,
		"3 false 0 false": again, "3 false < false": nothing, "3 false = false": nothing, "3 false > false": follow,
		"3 false 0 true": again, "3 false < true": nothing, "3 false = true": follow, "3 false > true": follow,
	}[fmt.Sprintf("%d %v %s %v", state, preempt, how, above)]
}

// how tells how a Priority that is heard is to one's own.
func how(heard, own int) string {
	switch {
	case heard == 0:
		return "0"
	case heard < own:
		return "<"
	case heard > own:
		return ">"
	}
	return "="
}

// plain is a plain reading of what a machine promises. It has no timer that runs: it has the time, and the
// time at which it is due. What it does behind an advertisement stands in a table.
type plain struct {
	c        vrrp.Config
	state    int
	pace     int
	now, due int
	done     []string
}

func (p *plain) says(priority int) {
	a := advert.Advert{Id: p.c.Id, Priority: priority, Every: p.c.Every, Addrs: p.c.Addrs}
	p.done = append(p.done, show(vrrp.Event{Kind: isSent, A: a}))
}

func (p *plain) lead() {
	p.says(p.c.Priority)
	p.done = append(p.done, show(vrrp.Event{Kind: isClaimed}))
	p.state, p.due = isMaster, p.now+p.c.Every
}

func (p *plain) follow(pace int) {
	p.state, p.pace = isBackup, pace
	p.due = p.now + p.down()
}

// down is four times the pace, but for what the skew falls short of it.
func (p *plain) down() int {
	return 4*p.pace - (p.pace - plainSkew(p.c.Priority, p.pace))
}

func (p *plain) wait() int {
	if p.state == isWaiting {
		return 0
	}
	return p.due - p.now
}

func (p *plain) start() {
	switch {
	case p.state != isWaiting:
	case p.c.Priority == 255:
		p.lead()
	default:
		p.follow(p.c.Every)
	}
}

func (p *plain) stop() {
	if p.state == isMaster {
		p.says(0)
	}
	p.state = isWaiting
}

func (p *plain) tick() {
	p.now++
	switch {
	case p.state == isWaiting || p.now != p.due:
	case p.state == isBackup:
		p.lead()
	default:
		p.says(p.c.Priority)
		p.due = p.now + p.c.Every
	}
}

func (p *plain) take(from api.Addr, a advert.Advert) {
	if p.state == isWaiting || a.Id != p.c.Id {
		return
	}
	switch deeds(p.state, p.c.Preempt, how(a.Priority, p.c.Priority), greater(from, p.c.From)) {
	case soon:
		p.due = p.now + 1
		for p.due-p.now < plainSkew(p.c.Priority, p.pace) {
			p.due++
		}
	case again:
		p.says(p.c.Priority)
		p.due = p.now + p.c.Every
	case follow:
		three := []int{1, a.Every, mostPace}
		slices.Sort(three)
		p.follow(three[1])
	}
}

func (p *plain) setPriority(n int) bool {
	if n < 1 || n > 255 {
		return false
	}
	p.c.Priority = n
	return true
}

func (p *plain) out() []string {
	done := p.done
	p.done = nil
	return done
}

// watched is a machine beside the plain reading. Behind each call all is asked of both; if it is quiet,
// Out is not.
type watched struct {
	t     *testing.T
	m     *vrrp.Machine
	plain *plain
	quiet bool
	calls []string
}

// made is a machine that must be one.
func made(t *testing.T, c vrrp.Config) *vrrp.Machine {
	t.Helper()
	m, errno := vrrp.New(c)
	if errno != api.OK || m == nil {
		t.Fatalf("P13.1: New%s tells %d", write(c), errno)
	}
	return m
}

func watch(t *testing.T, c vrrp.Config) *watched {
	t.Helper()
	own := c
	own.Addrs = slices.Clone(c.Addrs)
	w := &watched{t: t, m: made(t, c), plain: &plain{c: own, state: isWaiting, pace: c.Every}}
	w.look("New")
	return w
}

// begun is a machine that was brought to a state: to be master, it waited for nobody. Its events were told.
func begun(t *testing.T, c vrrp.Config, state int) *watched {
	t.Helper()
	w := watch(t, c)
	if state != isWaiting {
		w.start()
	}
	if state == isBackup && c.Priority == 255 {
		w.take(lessFour, advert.Advert{Id: c.Id, Priority: 256, Every: c.Every})
	}
	if state == isMaster && c.Priority < 255 {
		w.ticks(w.plain.wait())
	}
	if w.m.State() != state {
		t.Fatalf("P13.2: %s: State is %d, not %d", write(c), w.m.State(), state)
	}
	return w
}

// lately are the last calls.
func (w *watched) lately() string {
	return strings.Join(w.calls[max(0, len(w.calls)-12):], ", ")
}

func (w *watched) look(call string) {
	w.t.Helper()
	w.calls = append(w.calls, call)
	for range 2 {
		if got, want := w.m.State(), w.plain.state; got != want {
			w.t.Fatalf("P13.2: %s, behind %s: State is %d, not %d", write(w.plain.c), w.lately(), got, want)
		}
		if got, want := w.m.Wait(), w.plain.wait(); got != want {
			w.t.Fatalf("P13.1: %s, behind %s: Wait is %d, not %d", write(w.plain.c), w.lately(), got, want)
		}
		if got, want := w.m.Down(), w.plain.down(); got != want {
			w.t.Fatalf("P13.1: %s, behind %s: Down is %d, not %d", write(w.plain.c), w.lately(), got, want)
		}
		if !w.quiet {
			w.out()
		}
	}
}

func (w *watched) out() {
	w.t.Helper()
	if got, want := showAll(w.m.Out()), w.plain.out(); !slices.Equal(got, want) {
		w.t.Fatalf("P13.1: %s, behind %s: Out tells %q, not %q", write(w.plain.c), w.lately(), got, want)
	}
}

func (w *watched) start() {
	w.t.Helper()
	w.m.Start()
	w.plain.start()
	w.look("Start")
}

func (w *watched) stop() {
	w.t.Helper()
	w.m.Stop()
	w.plain.stop()
	w.look("Stop")
}

func (w *watched) ticks(many int) {
	w.t.Helper()
	for range many {
		w.m.Tick()
		w.plain.tick()
		w.look("Tick")
	}
}

func (w *watched) take(from api.Addr, a advert.Advert) {
	w.t.Helper()
	w.m.Take(from, a)
	w.plain.take(from, a)
	w.look(fmt.Sprintf("Take(%x, %d %d %d)", string(from), a.Id, a.Priority, a.Every))
}

func (w *watched) setPriority(n int) {
	w.t.Helper()
	is, want := w.m.SetPriority(n), w.plain.setPriority(n)
	if is != want {
		w.t.Fatalf("P13.1: %s, behind %s: SetPriority(%d) tells %v", write(w.plain.c), w.lately(), n, is)
	}
	w.look("SetPriority " + strconv.Itoa(n))
}

// is holds a machine's state and timer against what they must be.
func is(t *testing.T, m *vrrp.Machine, state, wait int, what string) {
	t.Helper()
	if m.State() != state || m.Wait() != wait {
		t.Errorf("P13.2: %s: State is %d and Wait %d, not %d and %d", what, m.State(), m.Wait(), state, wait)
	}
}

// did holds what Out tells, in short, against what it must tell.
func did(t *testing.T, m *vrrp.Machine, c vrrp.Config, want, what string) {
	t.Helper()
	if got := short(c, m.Out()); got != want {
		t.Errorf("P13.1: %s: Out tells %q, not %q", what, got, want)
	}
}

// short writes events in short: c is a claim, s and a number what is sent with a priority.
func short(c vrrp.Config, events []vrrp.Event) string {
	var l []string
	for _, e := range events {
		sent := advert.Advert{Id: c.Id, Priority: e.A.Priority, Every: c.Every, Addrs: c.Addrs}
		switch show(e) {
		case show(vrrp.Event{Kind: isClaimed}):
			l = append(l, "c")
		case show(vrrp.Event{Kind: isSent, A: sent}):
			l = append(l, "s"+strconv.Itoa(e.A.Priority))
		default:
			l = append(l, "?"+show(e))
		}
	}
	return strings.Join(l, ",")
}

func ticks(m *vrrp.Machine, many int) {
	for range many {
		m.Tick()
	}
}

func refused(t *testing.T, c vrrp.Config, what string) {
	t.Helper()
	for _, preempt := range []bool{false, true} {
		c.Preempt = preempt
		if m, errno := vrrp.New(c); errno != api.ErrVrrpForm || m != nil {
			t.Errorf("P13.1: %s: New%s tells %v and %d", what, write(c), m, errno)
		}
	}
}

func TestExamples(t *testing.T) {
	c := four(100, 100, true)
	m := made(t, c)
	m.Start()
	is(t, m, isBackup, 360, "Start")
	did(t, m, c, "", "Start")
	ticks(m, 360)
	is(t, m, isMaster, 100, "360 Ticks")
	did(t, m, c, "s100,c", "360 Ticks")
}

// play makes the calls of a script: S and X are Start and Stop, t a number of Ticks, p a SetPriority; l, e
// and g are a Take of a Priority and an Every from an address that is less, the same and greater, and o one
// of another Id. Of each it writes the state, Wait, Down and what was done; n is ahead of it where
// SetPriority tells false.
func play(m *vrrp.Machine, c vrrp.Config, script string) string {
	var answers []string
	for _, word := range strings.Fields(script) {
		mark := ""
		if !call(m, word) {
			mark = "n"
		}
		mark += fmt.Sprintf("%c%d/%d", " WBM"[m.State()], m.Wait(), m.Down())
		if done := short(c, m.Out()); done != "" {
			mark += "!" + done
		}
		answers = append(answers, mark)
	}
	return strings.Join(answers, " ")
}

func call(m *vrrp.Machine, word string) bool {
	first, second, _ := strings.Cut(word[1:], "/")
	n, _ := strconv.Atoi(first)
	every, _ := strconv.Atoi(second)
	switch word[0] {
	case 'S':
		m.Start()
	case 'X':
		m.Stop()
	case 't':
		ticks(m, n)
	case 'p':
		return m.SetPriority(n)
	case 'l':
		m.Take(lessFour, says(n, every))
	case 'e':
		m.Take(fromFour, says(n, every))
	case 'g':
		m.Take(moreFour, says(n, every))
	case 'o':
		m.Take(moreFour, advert.Advert{Id: 8, Priority: n, Every: every})
	}
	return true
}

// A played one is a script on a machine, and what play writes of it.
type played struct {
	priority, every int
	preempt         bool
	calls, answers  string
}

func (x played) holds(t *testing.T) {
	t.Helper()
	c := four(x.priority, x.every, x.preempt)
	if answers := play(made(t, c), c, x.calls); answers != x.answers {
		t.Errorf("P13.2: %d, %d, %v: %s\ntells     %s\nand not   %s", x.priority, x.every, x.preempt, x.calls, answers, x.answers)
	}
}

// TestByHand is of answers that were worked out by hand.
func TestByHand(t *testing.T) {
	for _, x := range []played{
		// It waits for nobody, is master, and is stopped.
		{100, 100, true, "t5 X S S t359 t1 t99 t1 t100 X X t5", "W0/360 W0/360 B360/360 B360/360 B1/360 M100/360!s100,c M1/360 M100/360!s100 M100/360!s100 W0/360!s0 W0/360 W0/360"},
		// At a pace of 1 it sends at each Tick.
		{255, 1, true, "S t1 t3 X S", "M1/3!s255,c M1/3!s255 M1/3!s255,s255,s255 W0/3!s0 M1/3!s255,c"},
		{1, 1, true, "S t2 t1 t1", "B3/3 B1/3 M1/3!s1,c M1/3!s1"},
		{1, 4095, true, "S t16363 t1 t4094 t1", "B16364/16364 B1/16364 M4095/16364!s1,c M1/16364 M4095/16364!s1"},
		// The other one's pace is its own while it is backup, but what it sends is at its own pace.
		{128, 100, true, "S l128/10 t34 t1 t99 t1 X S", "B350/350 B35/35 B1/35 M100/35!s128,c M1/35 M100/35!s128 W0/35!s0 B350/350"},
		// Below its own it hears nobody, if it preempts.
		{100, 100, true, "S t100 g99/100 l100/100 t100 g99/1 t1 g101/100", "B360/360 B260/360 B260/360 B360/360 B260/360 B260/360 B259/360 B360/360"},
		{100, 100, false, "S t100 g99/100 t100 l1/50 t100 l-1/100", "B360/360 B260/360 B360/360 B260/360 B180/180 B80/180 B360/360"},
		// Somebody is master no more: it waits for its skew alone, by the pace that it heard.
		{100, 100, true, "S l0/4095 t59 t1", "B360/360 B60/360 B1/360 M100/360!s100,c"},
		{100, 100, true, "S l200/10 l0/4095 t5 t1", "B360/360 B36/36 B6/36 B1/36 M100/36!s100,c"},
		{255, 100, true, "S g256/100 g0/100 t1", "M100/300!s255,c B300/300 B1/300 M100/300!s255,c"},
		{250, 40, true, "S l0/1 t1", "B120/120 B1/120 M40/120!s250,c"},
		{1, 2, true, "S l0/1 t1", "B7/7 B1/7 M2/7!s1,c"},
		// Two are master.
		{100, 100, true, "S t360 l101/50 t180 g99/50 l100/50 e100/50 t99 g100/50", "B360/360 M100/360!s100,c B180/180 M100/180!s100,c M100/180 M100/180 M100/180 M1/180 B180/180"},
		{100, 100, true, "S t400 g0/50 t99 l0/1 t100", "B360/360 M60/360!s100,c M100/360!s100 M1/360 M100/360!s100 M100/360!s100"},
		// What somebody says as Every may be anything.
		{100, 100, true, "S l100/0 l100/-1 l100/1 l100/2 l100/4094 l100/4095 l100/4096 l100/1000000", "B360/360 B3/3 B3/3 B3/3 B7/7 B14776/14776 B14780/14780 B14780/14780 B14780/14780"},
		// Its timer runs on, whatever its priority is; what is sent has the one of then.
		{100, 100, true, "S t10 p200 t349 p0 p256 p255 t1 t50 p1 t50 p254 X p100 S", "B360/360 B350/360 B350/321 B1/321 nB1/321 nB1/321 B1/300 M100/300!s255,c M50/300 M50/399 M100/399!s1 M100/300 W0/300!s0 W0/360 B360/360"},
		{100, 100, true, "p255 S p100 t100 X p255 S", "W0/300 M100/300!s255,c M100/360 M100/360!s100 W0/360!s0 W0/300 M100/300!s255,c"},
		// One that learnt a pace, and is master from the start, sends at its own.
		{100, 100, true, "S l100/10 X p255 S t100", "B360/360 B36/36 W0/36 W0/30 M100/30!s255,c M100/30!s255"},
		// Another Id's are not for it, nor is any for one that waits.
		{100, 100, true, "o0/100 l0/100 g255/9 S t10 o255/9 o0/9 t350 o255/9 o0/9 t1", "W0/360 W0/360 W0/360 B360/360 B350/360 B350/360 B350/360 M100/360!s100,c M100/360 M100/360 M99/360"},
	} {
		x.holds(t)
	}
}

// TestKnown is of what a reading in another language tells.
func TestKnown(t *testing.T) {
	for _, x := range []played{
		{100, 100, true, "S t359 t1 t99 p200 t1 l200/1 t1 t200 t1 g255/4096 t200 t12980 e255/2271 e224/10 p254 g254/1 o0/100 t6 p111 g0/1 t3 t96 t1 t200 e188/1", "B360/360 B1/360 M100/360!s100,c M1/360 M1/321 M100/321!s200 M100/321 M99/321 M99/321!s200,s200 M98/321 B13180/13180 B12980/13180 M100/13180!s200,c B7309/7309 B32/32 B32/30 B3/3 B3/3 M97/3!s254,c M97/3 M100/3!s111 M97/3 M1/3 M100/3!s111 M100/3!s111,s111 B3/3"},
		{100, 100, false, "t1 t1 S t720 o255/100 p100 t40 t99 X t1 t1 t1 S l100/10 t72 t64 S g251/4096 g100/100 e99/0 g100/2 g1/255 g0/100 p256 e145/1 t3", "W0/360 W0/360 B360/360 M40/360!s100,c,s100,s100,s100 M40/360 M40/360 M100/360!s100 M1/360 W0/360!s0 W0/360 W0/360 W0/360 B360/360 B36/36 M64/36!s100,c M100/36!s100 M100/36 B14780/14780 B360/360 B3/3 B7/7 B920/920 B155/920 nB155/920 B3/3 M100/3!s100,c"},
		{255, 100, true, "S p254 t1 S p93 g1/255 p0 e92/100 t98 X t1 S t364 X S t364 l93/0 t99 p255 g254/4096 e0/100 t100 g0/255 p254 t100 p256", "M100/300!s255,c M100/300 M99/300 M99/300 M99/363 M99/363 nM99/363 M99/363 M1/363 W0/363!s0 W0/363 B363/363 M99/363!s93,c W0/363!s0 B363/363 M99/363!s93,c M99/363 M100/363!s93 M100/300 M100/300 M100/300!s255 M100/300!s255 M100/300!s255 M100/300 M100/300!s254 nM100/300"},
		{255, 100, false, "t3 S p39 g0/10 g40/1 g255/4096 p97 t14000 o0/100 l96/100 o255/100 X t1 S t200 S e97/3440 t200 t1 l0/255 o255/100 t2136 l97/4096 p100 t200 t200", "W0/300 M100/300!s255,c M100/384 M100/384!s39 B3/3 B15756/15756 B15756/14828 B1756/14828 B1756/14828 B362/362 B362/362 W0/362 W0/362 B362/362 B162/362 B162/362 B12456/12456 B12256/12456 B12255/12456 B2136/12456 B2136/12456 M100/12456!s97,c M100/12456 M100/12416 M100/12416!s100,s100 M100/12416!s100,s100"},
		{254, 1, true, "t1 S l253/1 X t1 t1 S t3 t2 X t1 S t4 t2 o255/1 t1 t1 t3 e0/10 S g150/0 S t1 t1 t2 t2", "W0/3 B3/3 B3/3 W0/3 W0/3 W0/3 B3/3 M1/3!s254,c M1/3!s254,s254 W0/3!s0 W0/3 B3/3 M1/3!s254,c,s254 M1/3!s254,s254 M1/3 M1/3!s254 M1/3!s254 M1/3!s254,s254,s254 M1/3!s254 M1/3 M1/3 M1/3 M1/3!s254 M1/3!s254 M1/3!s254,s254 M1/3!s254,s254"},
		{1, 1, false, "S S t3 X S t2 t2 t3 t1 p0 g0/0 g1/1154 t1 t4611 p1 p1 t1 p254 p127 t1 t2 p200 l0/-1 t1 e199/1 l1/0", "B3/3 B3/3 M1/3!s1,c W0/3!s0 B3/3 B1/3 M1/3!s1,c,s1 M1/3!s1,s1,s1 M1/3!s1 nM1/3 M1/3!s1 B4611/4611 B4610/4611 M1/4611!s1,c,s1 M1/4611 M1/4611 M1/4611!s1 M1/3471 M1/4043 M1/4043!s127 M1/4043!s127,s127 M1/3714 M1/3714!s200 M1/3714!s200 M1/3714 M1/3714"},
		{1, 4095, true, "S e1/1 o255/4095 t8190 t3 l0/0 g2/0 l1/1 t3 p219 t4095 o0/4095 S t4095 e0/255 t3 g255/2 t8190 X S t12877 o255/4095 g0/4096 l218/-1 l255/4096 X", "B16364/16364 B3/3 B3/3 M3/3!s1,c,s1 M4095/3!s1 M4095/3!s1 B3/3 B3/3 M4095/3!s1,c M4095/3 M4095/3!s219 M4095/3 M4095/3 M4095/3!s219 M4095/3!s219 M4092/3 B6/6 M6/6!s219,c,s219 W0/6!s0 B12876/12876 M4094/12876!s219,c M4094/12876 M4095/12876!s219 M4095/12876 B12876/12876 W0/12876"},
		{200, 4095, false, "t1 S p200 e1/4095 e252/1 p0 p254 p200 t3 S t4095 l0/2952 l200/4095 e255/255 l199/2 g216/1 t4 t1 g0/-1 e200/-1 o0/4095 t4094 g255/0 p255 l0/255 t1", "W0/13180 B13180/13180 B13180/13180 B13180/13180 B3/3 nB3/3 B3/3 B3/3 M4095/3!s200,c M4095/3 M4095/3!s200 M4095/3!s200 M4095/3 B820/820 B6/6 B3/3 M4094/3!s200,c M4093/3 M4095/3!s200 M4095/3 M4095/3 M1/3 B3/3 B3/3 B1/3 M4095/3!s255,c"},
		{128, 256, true, "t3 t3 S S l129/255 t512 t380 t512 p100 X S t1 t512 t3 p256 g100/2 S X S g100/256 S t924 t512 S e0/0 t512", "W0/896 W0/896 B896/896 B896/896 B892/892 B380/892 M256/892!s128,c M256/892!s128,s128 M256/920 W0/920!s0 B924/924 B923/924 B411/924 B408/924 nB408/924 B7/7 B7/7 W0/7 B924/924 B924/924 B924/924 M256/924!s100,c M256/924!s100,s100 M256/924 M256/924!s100 M256/924!s100,s100"},
		{150, 255, true, "S p255 t510 l255/255 g0/2 l201/10 S t1 t255 o0/255 p256 l256/10 t1 t510 p200 p1 g0/255 l300/255 t510 g1/255 o0/255 e255/255 t1019 g2/0 t510 t3", "B870/870 B870/765 B360/765 B765/765 B1/765 B1/765 B1/765 M255/765!s255,c M255/765!s255 M255/765 nM255/765 B30/30 B29/30 M29/30!s255,c,s255 M29/32 M29/39 M255/39!s1 B1019/1019 B509/1019 B1019/1019 B1019/1019 B1019/1019 M255/1019!s1,c B3/3 M3/3!s1,c,s1 M255/3!s1"},
		{99, 7, true, "t14 t1 t1 S t14 l99/1652 t3 t5966 e99/10 e100/10 X t1 t1 t1 S X S g1/7 t26 t6 S g99/1 p256 g1/2388 t3 g0/3668", "W0/25 W0/25 W0/25 B25/25 B11/25 B5969/5969 B5966/5969 M7/5969!s99,c M7/5969 B36/36 W0/36 W0/36 W0/36 W0/36 B25/25 W0/25 B25/25 B25/25 M6/25!s99,c M7/25!s99 M7/25 B3/3 nB3/3 B3/3 M7/3!s99,c M7/3!s99"},
		{99, 7, false, "S t3 t22 g255/255 t922 t3 g100/10 p0 X S e99/0 l255/4096 t14000 l0/0 o255/7 t2512 X S p200 S p100 t24 g0/3005 t3 p200 t1", "B25/25 B22/25 M7/25!s99,c B921/921 M6/921!s99,c M3/921 B36/36 nB36/36 W0/36 B25/25 B3/3 B14796/14796 B796/14796 B2511/14796 B2511/14796 M6/14796!s99,c W0/14796!s0 B25/25 B25/22 B25/22 B25/25 B1/25 B4/25 B1/25 B1/22 M7/22!s200,c"},
		{254, 37, false, "S t3 g253/37 g0/1 g255/2 o255/37 e253/37 t112 t3 t3 t30 X t1 t3 S t222 e0/3191 g254/10 e255/0 g255/4096 p100 X S t133 t3 t68", "B111/111 B108/111 B111/111 B1/111 B6/6 B6/6 B111/111 M36/111!s254,c M33/111 M30/111 M37/111!s254 W0/111!s0 W0/111 W0/111 B111/111 M37/111!s254,c,s254,s254,s254 M37/111!s254 B30/30 B3/3 B12316/12316 B12316/14780 W0/14780 B133/133 M37/133!s100,c M34/133 M3/133!s100"},
		{2, 1000, true, "S S e211/0 e0/0 g0/1000 t1 t2000 p254 t1001 t999 X S g255/4096 g0/0 g255/-1 g255/2 t12 l172/-1 t2000 t2000 o255/1000 X t1 S t3007 l0/-1", "B3992/3992 B3992/3992 B3/3 B1/3 B1/3 M1000/3!s2,c M1000/3!s2,s2 M1000/3 M999/3!s254 M1000/3!s254 W0/3!s0 B3007/3007 B12316/12316 B31/12316 B3/3 B6/6 M994/6!s254,c M994/6 M994/6!s254,s254 M994/6!s254,s254 M994/6 W0/6!s0 W0/6 B3007/3007 M1000/3007!s254,c M1000/3007!s254"},
		{180, 50, true, "S e0/4096 l17/255 t1 p256 g179/4096 p67 t26 p200 t38 S o255/50 t49 l0/50 l255/255 t820 t100 g200/4096 e0/255 l0/-1 t895 e255/10 l199/255 g255/50 l255/1118 g255/-1", "B164/164 B14/164 B14/164 B13/164 nB13/164 B13/164 B13/186 M37/186!s67,c M37/160 M49/160!s200 M49/160 M49/160 M50/160!s200 M50/160!s200 B820/820 M50/820!s200,c M50/820!s200,s200 B13180/13180 B895/13180 B895/13180 M50/13180!s200,c B32/32 B32/32 B160/160 B3598/3598 B3/3"},
		{180, 50, false, "t1 t1 S p255 t165 t49 l254/2 p200 t50 g200/0 t100 g0/50 S o255/50 t50 g200/1 g0/50 t3 e200/10 X S e255/-1 g199/10 o0/50 t31 g200/10", "W0/164 W0/164 B164/164 B164/150 M49/150!s255,c M50/150!s255 M50/150 M50/160 M50/160!s200 B3/3 M3/3!s200,c,s200 M50/3!s200 M50/3 M50/3 M50/3!s200 B3/3 B1/3 M48/3!s200,c M48/3 W0/3!s0 B160/160 B3/3 B32/32 B32/32 B1/32 B32/32"},
	} {
		x.holds(t)
	}
}

// kinds are Configs of both kinds of address, of small and great numbers, that preempt and that don't.
func kinds() []vrrp.Config {
	var l []vrrp.Config
	for _, preempt := range []bool{false, true} {
		for _, priority := range []int{1, 100, 254, 255} {
			for _, every := range []int{1, 2, 9, 100} {
				l = append(l, four(priority, every, preempt), six(priority, every, preempt))
			}
		}
		one, other := four(128, 3, preempt), six(200, 5, preempt)
		one.Id, other.Id = 1, 255
		one.Addrs = many(manyAddrs, fromFour)
		l = append(l, one, other)
	}
	return l
}

// many is so many addresses, no two of them the same, of an address's kind.
func many(n int, like api.Addr) []api.Addr {
	var l []api.Addr
	for at := range n {
		addr := []byte(like)
		addr[len(addr)-2], addr[len(addr)-1] = byte(at>>8), byte(at)
		l = append(l, api.Addr(addr))
	}
	return l
}

func TestWrongNumbers(t *testing.T) {
	for _, right := range kinds() {
		for _, n := range append([]int{-1, 0, 256, 257, 511, 512}, far...) {
			c := right
			c.Id = n
			refused(t, c, "Id")
			c = right
			c.Priority = n
			refused(t, c, "Priority")
		}
		for _, n := range append([]int{-1, 0, 4096, 4097, 8191}, far...) {
			c := right
			c.Every = n
			refused(t, c, "Every")
		}
	}
}

func TestRightNumbers(t *testing.T) {
	for _, like := range []vrrp.Config{four(100, 100, true), six(100, 100, false)} {
		for n := 1; n <= mostPace; n++ {
			c := like
			c.Every = n
			begins(t, c)
			if n > 255 {
				continue
			}
			c = like
			c.Id = n
			begins(t, c)
			c = like
			c.Priority = n
			begins(t, c)
		}
	}
}

// begins holds a machine that was just made, and one that was just started, against what they must be. Its
// Down is held by what the words say: the skew is no more than what it says, and less than one below it.
func begins(t *testing.T, c vrrp.Config) {
	t.Helper()
	m := made(t, c)
	is(t, m, isWaiting, 0, "New")
	skew := m.Down() - 3*c.Every
	if skew*256 > (256-c.Priority)*c.Every || (skew+1)*256 <= (256-c.Priority)*c.Every {
		t.Errorf("P13.1: %s: Down is %d", write(c), m.Down())
	}
	did(t, m, c, "", "New")
	m.Start()
	if c.Priority == 255 {
		is(t, m, isMaster, c.Every, "Start")
		did(t, m, c, "s255,c", "Start")
		return
	}
	is(t, m, isBackup, 3*c.Every+skew, "Start")
	did(t, m, c, "", "Start")
}

func TestWrongAddrs(t *testing.T) {
	for _, right := range []vrrp.Config{four(100, 100, true), six(1, 1, true), six(255, 4095, true)} {
		c := right
		c.Addrs = nil
		refused(t, c, "no Addrs")
		c.Addrs = []api.Addr{}
		refused(t, c, "no Addrs")
		for _, n := range []int{9, 10, 16, 17, 255, 256, 257, 264, 1000, 1 << 16, 1<<16 + 1} {
			c.Addrs = many(n, right.From)
			refused(t, c, "too many Addrs")
		}
		for n := 1; n <= manyAddrs; n++ {
			for at := range n {
				for _, long := range []int{0, 1, 2, 3, 4, 5, 6, 8, 12, 15, 16, 17, 20, 32, 64, 256 + 4, 256 + 16} {
					if long == len(right.From) {
						continue
					}
					c.Addrs = many(n, right.From)
					c.Addrs[at] = api.Addr(strings.Repeat("\x0a", long))
					refused(t, c, "an address of another kind, or of none")
				}
			}
		}
	}
}

func TestRightAddrs(t *testing.T) {
	for _, right := range []vrrp.Config{four(100, 10, true), six(100, 10, false)} {
		for n := 1; n <= manyAddrs; n++ {
			c := right
			c.Addrs = many(n, right.From)
			w := begun(t, c, isMaster)
			w.ticks(25)
			w.stop()
			c.Addrs = slices.Repeat([]api.Addr{right.From}, n)
			begun(t, c, isMaster).stop()
			zero := api.Addr(strings.Repeat("\x00", len(right.From)))
			c.From, c.Addrs = zero, slices.Repeat([]api.Addr{zero}, n)
			begun(t, c, isMaster).stop()
		}
	}
}

func TestWrongFrom(t *testing.T) {
	for _, long := range []int{0, 1, 2, 3, 5, 6, 8, 12, 15, 17, 20, 32, 64, 256 + 4, 256 + 16, 1 << 16} {
		from := api.Addr(strings.Repeat("\x0a", long))
		for _, c := range []vrrp.Config{four(100, 100, true), six(100, 100, true)} {
			c.From = from
			refused(t, c, "From")
			c.Addrs = []api.Addr{from}
			refused(t, c, "From, and an address like it")
		}
	}
	one, other := four(100, 100, true), six(100, 100, true)
	one.From, other.From = other.From, one.From
	refused(t, one, "From of the other kind")
	refused(t, other, "From of the other kind")
}

func TestMuchAmiss(t *testing.T) {
	for _, id := range []int{0, 7, 256} {
		for _, priority := range []int{-1, 0, 100, 256} {
			for _, every := range []int{0, 100, 4096} {
				for _, from := range []api.Addr{"", fromFour, fromSix} {
					for _, n := range []int{0, 1, 9} {
						c := vrrp.Config{Id: id, Priority: priority, Every: every, From: from, Addrs: many(n, fromFour)}
						if id == 7 && priority == 100 && every == 100 && from == fromFour && n == 1 {
							made(t, c)
							continue
						}
						refused(t, c, "much is amiss")
					}
				}
			}
		}
	}
	refused(t, vrrp.Config{}, "all is amiss")
}

func TestSkew(t *testing.T) {
	for _, x := range []struct{ priority, every, want int }{
		{0, 1, 1}, {0, 2, 2}, {0, 255, 255}, {0, 256, 256}, {0, 4095, 4095},
		{1, 1, 0}, {1, 2, 1}, {1, 255, 254}, {1, 256, 255}, {1, 4095, 4079},
		{254, 1, 0}, {254, 2, 0}, {254, 127, 0}, {254, 128, 1}, {254, 255, 1}, {254, 256, 2}, {254, 4095, 31},
		{255, 1, 0}, {255, 2, 0}, {255, 255, 0}, {255, 256, 1}, {255, 511, 1}, {255, 512, 2}, {255, 4095, 15},
		{128, 1, 0}, {128, 2, 1}, {128, 3, 1}, {100, 100, 60}, {100, 4095, 2495},
	} {
		if n := vrrp.Skew(x.priority, x.every); n != x.want {
			t.Errorf("P13.1: Skew(%d, %d) is %d, not %d", x.priority, x.every, n, x.want)
		}
	}
	priorities := append([]int{-2, -1, 0, 1, 2, 100, 254, 255, 256, 257, 512}, far...)
	everies := append([]int{-2, -1, 0, 1, 2, 100, 255, 256, 4094, 4095, 4096, 4097, 8191}, far...)
	for _, priority := range priorities {
		for _, every := range everies {
			if n, want := vrrp.Skew(priority, every), plainSkew(priority, every); n != want {
				t.Errorf("P13.1: Skew(%d, %d) is %d, not %d", priority, every, n, want)
			}
		}
	}
}

// TestEachSkew goes through all of them: each is worked out from the one ahead of it, by what is left over.
func TestEachSkew(t *testing.T) {
	for priority := range 256 {
		whole, left := 0, 0
		for every := 1; every <= mostPace; every++ {
			left += 256 - priority
			if left >= 256 {
				whole, left = whole+1, left-256
			}
			if n := vrrp.Skew(priority, every); n != whole {
				t.Fatalf("P13.1: Skew(%d, %d) is %d, not %d", priority, every, n, whole)
			}
		}
	}
}

// TestSetPriority is of right and wrong ones in each state, with a timer that runs already.
func TestSetPriority(t *testing.T) {
	for _, c := range kinds() {
		for _, state := range []int{isWaiting, isBackup, isMaster} {
			w := begun(t, c, state)
			w.ticks(1)
			before := w.m.Wait()
			for _, n := range append([]int{1, 0, 255, 256, 2, 254, -1, 257, 100}, far...) {
				if ok := w.m.SetPriority(n); ok != (n >= 1 && n <= 255) {
					t.Fatalf("P13.1: SetPriority(%d) tells %v", n, ok)
				}
				w.setPriority(n)
				is(t, w.m, state, before, "SetPriority "+strconv.Itoa(n))
			}
			w.ticks(before)
			w.stop()
			w.setPriority(200)
			w.start()
			w.ticks(700)
		}
	}
	m := made(t, four(100, 256, true))
	for n := 1; n <= 255; n++ {
		if !m.SetPriority(n) || m.Down() != 3*256+256-n {
			t.Errorf("P13.1: SetPriority(%d): Down is %d", n, m.Down())
		}
	}
}

// TestPriorityFromNowOn: what is sent, and what is heard, goes by the priority of then.
func TestPriorityFromNowOn(t *testing.T) {
	c := four(100, 50, true)
	m := begun(t, c, isMaster).m
	m.SetPriority(255)
	ticks(m, 50)
	m.Take(moreFour, says(254, 50))
	m.SetPriority(1)
	ticks(m, 50)
	m.Take(moreFour, says(0, 50))
	did(t, m, c, "s255,s1,s1", "three priorities")
	m.Take(lessFour, says(2, 50))
	is(t, m, isBackup, 150+49, "the other one's is greater")
	m.SetPriority(255)
	ticks(m, 50)
	m.Take(moreFour, says(254, 50))
	is(t, m, isBackup, 149, "the other one's is below")
	m.Take(moreFour, says(0, 50))
	is(t, m, isBackup, 1, "it leaves")
	m.SetPriority(99)
	ticks(m, 1)
	did(t, m, c, "s99,c", "master")
	m.Stop()
	did(t, m, c, "s0", "Stop")
}

func TestStartAgain(t *testing.T) {
	for _, c := range kinds() {
		for _, state := range []int{isBackup, isMaster} {
			w := begun(t, c, state)
			for range 3 * c.Every {
				before, wait := w.m.State(), w.m.Wait()
				w.start()
				is(t, w.m, before, wait, "Start of one that is started")
				w.ticks(1)
			}
			w.setPriority(255)
			w.start()
			w.setPriority(1)
			w.start()
		}
	}
}

// TestOwner is of who starts with the Priority 255, whether it was made so or set so.
func TestOwner(t *testing.T) {
	for _, c := range kinds() {
		w := watch(t, c)
		w.setPriority(255)
		w.start()
		is(t, w.m, isMaster, c.Every, "Start of 255")
		w.setPriority(254)
		w.stop()
		w.start()
		is(t, w.m, isBackup, w.m.Down(), "Start of 254")
		w.setPriority(255)
		is(t, w.m, isBackup, 3*c.Every+2*c.Every/256, "a backup that is 255 now")
		w.stop()
		w.start()
		is(t, w.m, isMaster, c.Every, "Start of 255")
	}
}

func TestWaiting(t *testing.T) {
	for _, c := range kinds() {
		w := watch(t, c)
		for range 3 {
			for range 2 {
				w.stop()
				w.ticks(5 * c.Every)
				for _, priority := range []int{-1, 0, 1, c.Priority, 255, 256} {
					for _, from := range []api.Addr{"", lessFour, fromFour, moreFour, lessSix, fromSix, moreSix} {
						w.take(from, advert.Advert{Id: c.Id, Priority: priority, Every: 77})
					}
				}
				is(t, w.m, isWaiting, 0, "one that waits")
			}
			w.start()
			w.ticks(4 * c.Every)
			w.take("\xff", advert.Advert{Id: c.Id, Priority: 256, Every: 5})
		}
	}
}

// TestStop is of each state, at each time of its timer.
func TestStop(t *testing.T) {
	for _, every := range []int{1, 2, 7} {
		c := four(100, every, true)
		for _, state := range []int{isBackup, isMaster} {
			for gone := range 6 * every {
				m := begun(t, c, state).m
				ticks(m, gone)
				m.Out()
				want := ""
				if m.State() == isMaster {
					want = "s0"
				}
				m.Stop()
				is(t, m, isWaiting, 0, "Stop")
				did(t, m, c, want, "Stop")
				m.Stop()
				ticks(m, 10*every)
				is(t, m, isWaiting, 0, "Stop twice")
				did(t, m, c, "", "Stop twice")
				m.Start()
				is(t, m, isBackup, m.Down(), "Start behind Stop")
			}
		}
	}
}

// TestTimers is of the Tick that brings a timer to 0, the one ahead of it and the one behind it.
func TestTimers(t *testing.T) {
	for _, x := range []struct{ priority, every, down int }{
		{100, 100, 360}, {1, 1, 3}, {1, 2, 7}, {254, 1, 3}, {254, 256, 770}, {254, 4095, 12316}, {1, 4095, 16364}, {128, 50, 175}, {200, 7, 22},
	} {
		c := four(x.priority, x.every, true)
		sent := "s" + strconv.Itoa(x.priority)
		m := made(t, c)
		m.Start()
		is(t, m, isBackup, x.down, "Start")
		ticks(m, x.down-1)
		is(t, m, isBackup, 1, "the Tick ahead of it")
		did(t, m, c, "", "the Tick ahead of it")
		m.Tick()
		is(t, m, isMaster, x.every, "the Tick")
		did(t, m, c, sent+",c", "the Tick")
		for range 3 {
			ticks(m, x.every-1)
			is(t, m, isMaster, 1, "the Tick ahead of a master's")
			did(t, m, c, "", "the Tick ahead of a master's")
			m.Tick()
			is(t, m, isMaster, x.every, "a master's Tick")
			did(t, m, c, sent, "a master's Tick")
		}
		m.Tick()
		if x.every > 1 {
			is(t, m, isMaster, x.every-1, "the Tick behind a master's")
			did(t, m, c, "", "the Tick behind a master's")
		}
	}
}

// TestLeaves is of a backup that hears the Priority 0: it waits for its skew by the pace of then, which is
// not the one that was said with it; and where that is 0, for one Tick.
func TestLeaves(t *testing.T) {
	for _, x := range []struct{ priority, every, wait int }{
		{100, 100, 60}, {100, 4095, 2495}, {254, 256, 2}, {254, 255, 1}, {254, 128, 1}, {254, 127, 1}, {254, 1, 1},
		{1, 1, 1}, {1, 2, 1}, {1, 3, 2}, {128, 1, 1}, {128, 2, 1}, {128, 3, 1}, {128, 4, 2},
	} {
		for _, said := range []int{math.MinInt, -1, 0, 1, 2, 100, 4095, 4096, math.MaxInt} {
			for _, preempt := range []bool{false, true} {
				c := four(x.priority, x.every, preempt)
				m := made(t, c)
				m.Start()
				down := m.Down()
				for range 2 {
					m.Take(moreFour, says(0, said))
					is(t, m, isBackup, x.wait, "somebody leaves")
					m.Take(lessFour, says(0, said))
					is(t, m, isBackup, x.wait, "somebody leaves")
				}
				if m.Down() != down {
					t.Errorf("P13.3: %s: Down is %d behind Priority 0, and was %d", write(c), m.Down(), down)
				}
				ticks(m, x.wait-1)
				is(t, m, isBackup, 1, "ahead of the skew's end")
				did(t, m, c, "", "ahead of the skew's end")
				m.Tick()
				is(t, m, isMaster, x.every, "the skew's end")
				did(t, m, c, "s"+strconv.Itoa(x.priority)+",c", "the skew's end")
			}
		}
	}
	// One of the Priority 255 is backup when it is set so.
	for _, x := range []struct{ every, wait int }{{1, 1}, {100, 1}, {255, 1}, {256, 1}, {511, 1}, {512, 2}, {4095, 15}} {
		m := made(t, four(100, x.every, true))
		m.Start()
		m.SetPriority(255)
		m.Take(lessFour, says(0, 9))
		is(t, m, isBackup, x.wait, "somebody leaves, and it is 255")
	}
	// The pace that was heard counts, too.
	m := made(t, four(100, 100, true))
	m.Start()
	m.Take(lessFour, says(100, 10))
	m.Take(lessFour, says(0, 100))
	is(t, m, isBackup, 6, "somebody of a pace of 10 leaves")
	// A skew may be more than what is left of the timer.
	m = made(t, four(1, 100, true))
	m.Start()
	ticks(m, 398)
	m.Take(lessFour, says(0, 100))
	is(t, m, isBackup, 99, "somebody leaves late")
}

// TestPaces is of what is said as Every: it counts as 1 to 4095.
func TestPaces(t *testing.T) {
	for _, said := range append([]int{-2, -1, 0, 1, 2, 3, 100, 255, 256, 4094, 4095, 4096, 4097}, far...) {
		pace := said
		if said < 1 {
			pace = 1
		} else if said > mostPace {
			pace = mostPace
		}
		for _, preempt := range []bool{false, true} {
			for _, state := range []int{isBackup, isMaster} {
				c := four(100, 50, preempt)
				m := begun(t, c, state).m
				m.Take(lessFour, says(101, said))
				is(t, m, isBackup, 3*pace+156*pace/256, "an Every of "+strconv.Itoa(said))
				if m.Down() != m.Wait() {
					t.Errorf("P13.3: Every %d: Down is %d", said, m.Down())
				}
				did(t, m, c, "", "somebody of a greater Priority")
				m.Take(lessFour, says(0, 50))
				is(t, m, isBackup, max(156*pace/256, 1), "it leaves")
				ticks(m, m.Wait())
				is(t, m, isMaster, 50, "it has left")
				did(t, m, c, "s100,c", "it has left")
				ticks(m, 50)
				did(t, m, c, "s100", "its own pace")
				m.Stop()
				m.Start()
				is(t, m, isBackup, 150+30, "its own pace")
			}
		}
	}
}

// TestOtherId is of each Id but one's own, in each state.
func TestOtherId(t *testing.T) {
	for _, own := range []int{1, 2, 7, 128, 254, 255} {
		for _, state := range []int{isWaiting, isBackup, isMaster} {
			for _, like := range []vrrp.Config{four(100, 100, true), six(100, 100, false)} {
				like.Id = own
				w := begun(t, like, state)
				w.ticks(3)
				wait, down := w.m.Wait(), w.m.Down()
				ids := slices.Clone(far)
				for id := -2; id <= 513; id++ {
					ids = append(ids, id)
				}
				for _, id := range append(ids, own+1<<32, own-1<<32, own+1<<16, -own) {
					for _, priority := range []int{0, 100, 255} {
						if id != own {
							w.m.Take("\xff", advert.Advert{Id: id, Priority: priority, Every: 1, Addrs: like.Addrs})
						}
					}
				}
				w.look("Takes of other Ids")
				is(t, w.m, state, wait, "other Ids")
				if w.m.Down() != down {
					t.Errorf("P13.3: Down is %d behind other Ids", w.m.Down())
				}
			}
		}
	}
}

// near are the Priorities about one's own, and others.
func near(own int) []int {
	return append([]int{-1, 0, 1, 2, 99, 100, 101, 254, 255, 256, 257, own - 1, own, own + 1}, far...)
}

// TestEachPriority is of what somebody of each Priority does to a backup and to a master, whose addresses
// are one below, the same and one above.
func TestEachPriority(t *testing.T) {
	for own := 1; own <= 255; own++ {
		for _, preempt := range []bool{false, true} {
			for _, state := range []int{isBackup, isMaster} {
				c := four(own, 6, preempt)
				for _, from := range []api.Addr{lessFour, fromFour, moreFour} {
					w := begun(t, c, state)
					for _, heard := range near(own) {
						w.back(state)
						w.ticks(2)
						before := w.m.Wait()
						w.take(from, says(heard, 9))
						w.heard(heard, own, state, before, from)
					}
				}
			}
		}
	}
}

// back brings a machine back to be master, or to be a backup whose timer runs all of Down.
func (w *watched) back(state int) {
	w.t.Helper()
	if state == isBackup {
		w.take("\xff", advert.Advert{Id: w.plain.c.Id, Priority: 256, Every: w.plain.c.Every})
	} else if w.m.State() == isBackup {
		w.ticks(w.m.Wait())
	}
}

// heard holds what a machine is, behind a Take with an Every of 9, against the chapter's words.
func (w *watched) heard(heard, own, state, before int, from api.Addr) {
	w.t.Helper()
	what := fmt.Sprintf("%s, of %x and Priority %d", write(w.plain.c), string(from), heard)
	follows := 27 + (256-own)*9/256
	switch {
	case heard == 0 && state == isBackup:
		is(w.t, w.m, isBackup, max((256-own)*w.plain.pace/256, 1), what)
	case heard == 0:
		is(w.t, w.m, isMaster, 6, what)
	case heard > own, heard == own && state == isBackup, heard == own && from == moreFour, state == isBackup && !w.plain.c.Preempt:
		is(w.t, w.m, isBackup, follows, what)
	default:
		is(w.t, w.m, state, before, what)
	}
}

// TestAddresses is of two masters of one Priority: the one of the greater address stays. An address that
// comes may be anything.
func TestAddresses(t *testing.T) {
	for _, x := range []struct {
		own           api.Addr
		less, greater []api.Addr
	}{
		{fromFour,
			[]api.Addr{"", "\x00", "\x0a", "\x0a\x00", "\x0a\x00\x00", lessFour, fromFour, "\x0a\x00\x00\x01\xff", "\x09", "\x09\xff\xff\xff", "\x00\x00\x00\x02", "\x02\x00\x00\x0a", "\x09\xff\xff\xff\xff\xff\xff\xff\xff\xff\xff\xff\xff\xff\xff\xff"},
			[]api.Addr{moreFour, "\x0a\x00\x00\x02\x00", "\x0a\x00\x00\x02\x01", "\x0a\x00\x00\xff", "\x0a\x00\x01\x00", "\x0a\x01\x00\x00", "\x0a\x00\x00\x82", "\x0b", "\x0b\x00\x00\x00", "\x0a\x01", "\x80", "\x8a\x00\x00\x02", "\xff", fromSix, lessSix, "\x0a\x00\x00\x02" + fromSix[4:]},
		},
		{fromSix,
			[]api.Addr{"", lessSix, fromSix, fromSix[:15], fromSix[:1], fromSix[:4], "\xfe\x7f", "\x7e" + fromSix[1:], "\xfd" + fromSix[1:], lessSix + "\xff", fromFour, moreFour, "\xfe\x00\xff\xff\xff\xff\xff\xff\xff\xff\xff\xff\xff\xff\xff\xff"},
			[]api.Addr{moreSix, fromSix + "\x00", fromSix + "\xff", "\xff", "\xff\x00\x00\x00", "\xfe\x81", fromSix[:8] + "\x01\x00\x00\x00\x00\x00\x00\x00", fromSix[:15] + "\x80", fromSix[:15] + "\xff"},
		},
		{"\x00\x00\x00\x00",
			[]api.Addr{"", "\x00", "\x00\x00\x00", "\x00\x00\x00\x00"},
			[]api.Addr{"\x00\x00\x00\x00\x00", "\x00\x00\x00\x01", "\x01", "\x00\x00\x01", "\x80\x00\x00\x00"},
		},
		{"\xff\xff\xff\xff",
			[]api.Addr{"", "\xff", "\xff\xff\xff", "\xff\xff\xff\xff", "\xff\xff\xff\xfe", "\x7f\xff\xff\xff", "\xff\xff\xff\xfe\xff"},
			[]api.Addr{"\xff\xff\xff\xff\x00", "\xff\xff\xff\xff\xff"},
		},
	} {
		for _, preempt := range []bool{false, true} {
			c := vrrp.Config{Id: 9, Priority: 100, Every: 8, Preempt: preempt, From: x.own, Addrs: many(1, x.own)}
			for _, from := range x.less {
				meets(t, c, from, isMaster)
			}
			for _, from := range x.greater {
				meets(t, c, from, isBackup)
			}
		}
	}
}

// meets lets a master hear somebody of its Priority, of one below and of one above. It is in a state behind
// the first of them; the address says nothing of the others, nor to a backup.
func meets(t *testing.T, c vrrp.Config, from api.Addr, state int) {
	t.Helper()
	what := fmt.Sprintf("%s, of %x", write(c), string(from))
	heard := func(priority int) *vrrp.Machine {
		w := begun(t, c, isMaster)
		w.ticks(3)
		w.take(from, advert.Advert{Id: c.Id, Priority: priority, Every: 8})
		return w.m
	}
	wait := 5
	if state == isBackup {
		wait = 24 + 4
	}
	is(t, heard(100), state, wait, what)
	is(t, heard(99), isMaster, 5, what+", one below")
	is(t, heard(-1), isMaster, 5, what+", far below")
	is(t, heard(0), isMaster, 8, what+", leaving")
	is(t, heard(101), isBackup, 28, what+", one above")
	is(t, heard(256), isBackup, 28, what+", far above")
	w := begun(t, c, isBackup)
	w.ticks(3)
	w.take(from, advert.Advert{Id: c.Id, Priority: 100, Every: 8})
	is(t, w.m, isBackup, 28, what+", by a backup")
}

// TestMachinesOwnNumbers: an advertisement says the machine's own Id, Every and Addrs, whatever was heard.
func TestMachinesOwnNumbers(t *testing.T) {
	for _, c := range kinds() {
		w := begun(t, c, isMaster)
		w.take("\xff", advert.Advert{Id: c.Id, Priority: 255, Every: 77, Addrs: []api.Addr{"\x01\x02\x03\x04", ""}})
		w.take("\xff", advert.Advert{Id: c.Id, Priority: 0, Every: 66, Addrs: []api.Addr{"\x05\x06\x07\x08"}})
		w.ticks(400)
		w.m.Stop()
		events := w.m.Out()
		if len(events) != 1 || events[0].Kind != isSent || events[0].A.Id != c.Id || events[0].A.Priority != 0 || events[0].A.Every != c.Every || !slices.Equal(events[0].A.Addrs, c.Addrs) {
			t.Errorf("P13.1: %s sends %v", write(c), showAll(events))
		}
		// What is sent can be: nothing is amiss with it.
		if _, errno := advert.Encode(events[0].A, c.From); errno != api.OK {
			t.Errorf("P13.1: %s sends what Encode refuses", write(c))
		}
	}
}

// TestClaimsSayNothing: what is claimed has no advertisement.
func TestClaimsSayNothing(t *testing.T) {
	for _, c := range kinds() {
		m := made(t, c)
		m.Start()
		ticks(m, m.Wait())
		events := m.Out()
		if c.Priority == 255 && len(events) == 3 {
			events = events[:2]
		}
		if len(events) != 2 || events[0].Kind != isSent || events[1].Kind != isClaimed {
			t.Fatalf("P13.2: %s: Out tells %v", write(c), showAll(events))
		}
		if a := events[1].A; a.Id != 0 || a.Priority != 0 || a.Every != 0 || len(a.Addrs) != 0 {
			t.Errorf("P13.2: %s claims with %v", write(c), a)
		}
	}
}

// TestManyEvents is of more than one thing that was done ahead of an Out, and of an Out behind none.
func TestManyEvents(t *testing.T) {
	c := four(100, 10, true)
	m := made(t, c)
	did(t, m, c, "", "New")
	m.Start()
	ticks(m, 36+30)
	m.Take(lessFour, says(0, 10))
	m.Take(lessFour, says(0, 10))
	m.SetPriority(50)
	ticks(m, 10)
	m.Take(lessFour, says(51, 10))
	ticks(m, m.Wait()+10)
	m.Stop()
	m.Stop()
	m.SetPriority(255)
	m.Start()
	m.Stop()
	did(t, m, c, "s100,c,s100,s100,s100,s100,s100,s50,s50,c,s50,s0,s255,c,s0", "many")
	for range 3 {
		did(t, m, c, "", "Out behind Out")
	}
	m.Start()
	did(t, m, c, "s255,c", "Start")
	did(t, m, c, "", "Out behind Out")
	if l := m.Out(); len(l) != 0 {
		t.Errorf("P13.1: Out tells %v", l)
	}
	// Many more than anything that is laid by for them at first.
	quick := four(100, 1, true)
	m = made(t, quick)
	m.Start()
	ticks(m, 3+5000)
	want := append([]string{"s100", "c"}, slices.Repeat([]string{"s100"}, 5000)...)
	did(t, m, quick, strings.Join(want, ","), "5000 Ticks")
	did(t, m, quick, "", "Out behind Out")
}

// TestAskingChangesNothing is of two machines of the same Config, one of which is asked and the other one not.
func TestAskingChangesNothing(t *testing.T) {
	chance := rand.New(rand.NewSource(8))
	for _, c := range kinds() {
		asked, quiet := made(t, c), made(t, c)
		for range 150 {
			for range 3 {
				asked.State()
				asked.Wait()
				asked.Down()
				vrrp.Skew(chance.Intn(256), chance.Intn(4096))
				asked.SetPriority(0)
				asked.SetPriority(256)
			}
			word := fmt.Sprintf("%c%d/%d", "SXtttttlegpo"[chance.Intn(12)], []int{0, 1, 100, 255, 20}[chance.Intn(5)], 1+chance.Intn(20))
			call(asked, word)
			call(quiet, word)
		}
		if asked.State() != quiet.State() || asked.Wait() != quiet.Wait() || asked.Down() != quiet.Down() || !slices.Equal(showAll(asked.Out()), showAll(quiet.Out())) {
			t.Errorf("P13.1: %s is another one where it was asked", write(c))
		}
	}
}

// act makes one call of a script.
func act(chance *rand.Rand, w *watched) {
	w.t.Helper()
	own := w.plain.c
	switch n := chance.Intn(20); {
	case n == 0:
		w.stop()
	case n == 1 || w.plain.state == isWaiting && n < 10:
		w.start()
	case n == 2:
		w.setPriority([]int{-1, 0, 1, 2, 100, 254, 255, 256, far[chance.Intn(len(far))]}[chance.Intn(9)])
	case n == 3:
		w.setPriority(1 + chance.Intn(255))
	case n < 6:
		w.ticks(1)
	case n < 11:
		w.ticks(chance.Intn(max(own.Every, 1)) + 1)
	case n < 14:
		w.ticks(w.plain.wait() + chance.Intn(3) - min(1, w.plain.wait()))
	default:
		w.take(heardFrom(chance, own), heardOf(chance, own))
	}
}

// heardFrom is whom a machine hears: of its own address, of one near it, or of any.
func heardFrom(chance *rand.Rand, own vrrp.Config) api.Addr {
	l := []api.Addr{"", lessFour, fromFour, moreFour, lessSix, fromSix, moreSix, own.From, own.From + "\x00", own.From[1:], own.From[:len(own.From)-1]}
	return l[chance.Intn(len(l))]
}

// heardOf is what it hears.
func heardOf(chance *rand.Rand, own vrrp.Config) advert.Advert {
	a := advert.Advert{Id: own.Id, Priority: chance.Intn(256), Every: own.Every}
	if chance.Intn(2) == 0 {
		l := near(own.Priority)
		a.Priority = l[chance.Intn(len(l))]
	}
	if chance.Intn(3) == 0 {
		a.Priority = own.Priority
	}
	switch chance.Intn(6) {
	case 0:
		a.Every = 1 + chance.Intn(30)
	case 1:
		a.Every = []int{-1, 0, 1, 2, 3}[chance.Intn(5)]
	}
	if chance.Intn(60) == 0 {
		l := append([]int{4094, 4095, 4096}, far...)
		a.Every = l[chance.Intn(len(l))]
	}
	if chance.Intn(12) == 0 {
		a.Id += []int{-1, 1, 256, -256, 1 << 32}[chance.Intn(5)]
	}
	if chance.Intn(2) == 0 {
		a.Addrs = []api.Addr{own.From, "", "\x01"}
	}
	return a
}

// TestScripts is of calls of all kinds, Out asked behind each of them.
func TestScripts(t *testing.T) {
	chance := rand.New(rand.NewSource(13))
	for _, c := range kinds() {
		for range 4 {
			w := watch(t, c)
			for range 100 {
				act(chance, w)
			}
		}
	}
}

// TestMixedScripts is of such Configs as come, Out asked now and then.
func TestMixedScripts(t *testing.T) {
	chance := rand.New(rand.NewSource(14))
	for n := range 200 {
		from := []api.Addr{fromFour, fromSix, "\x00\x00\x00\x00", "\xff\xff\xff\xff"}[n%4]
		c := vrrp.Config{Id: 1 + chance.Intn(255), Priority: 1 + chance.Intn(255), Every: 1 + chance.Intn(40), Preempt: chance.Intn(2) == 1, From: from, Addrs: many(1+chance.Intn(manyAddrs), from)}
		if n%20 == 0 {
			c.Every = 1 + chance.Intn(mostPace)
		}
		w := watch(t, c)
		w.quiet = true
		for range 60 {
			act(chance, w)
			if chance.Intn(10) == 0 {
				w.out()
			}
		}
		w.out()
		w.out()
	}
}

// TestHandedIn: what was handed to New and to Take stays as it was (R5), and what its caller writes into it
// behind them is not seen (R6).
func TestHandedIn(t *testing.T) {
	for _, like := range kinds() {
		room := append(slices.Clone(like.Addrs), "behind", "it")
		c := like
		c.Addrs = room[:len(like.Addrs)]
		before := slices.Clone(room)
		w := begun(t, c, isMaster)
		a := advert.Advert{Id: c.Id, Priority: 256, Every: 9, Addrs: []api.Addr{"\x01\x02\x03\x04", "x"}}
		w.take("\xff", a)
		if a.Id != c.Id || a.Priority != 256 || a.Every != 9 || !slices.Equal(a.Addrs, []api.Addr{"\x01\x02\x03\x04", "x"}) {
			t.Errorf("P13.3: the advertisement is %v behind Take", a)
		}
		a.Addrs[0], a.Addrs[1] = "spoiled", "too"
		w.ticks(w.m.Wait())
		if !slices.Equal(room, before) {
			t.Errorf("P13.1: the Addrs are %x behind New", room)
		}
		for at := range room {
			room[at] = "spoiled"
		}
		c.Id, c.Priority, c.Every, c.From = 77, 77, 77, "spoiled"
		w.ticks(200)
		w.take(lessFour, advert.Advert{Id: like.Id, Priority: 0})
		w.stop()
		w.start()
		w.ticks(w.m.Wait())
		w.stop()
		if slices.ContainsFunc(room, func(addr api.Addr) bool { return addr != "spoiled" }) {
			t.Errorf("P13.1: the Addrs are written into behind New: %x", room)
		}
	}
	// Refused, they stay as they were, too.
	c := four(100, 100, true)
	c.Addrs = []api.Addr{fromFour, "x", moreFour}
	refused(t, c, "an address of a wrong length")
	if !slices.Equal(c.Addrs, []api.Addr{fromFour, "x", moreFour}) {
		t.Errorf("P13.1: the Addrs are %x behind a New that refuses them", c.Addrs)
	}
}

// TestOwn writes into what Out told (R6), into its advertisements' Addrs too, up to all that there is room
// for behind them: neither another event nor what is done behind it is other for it.
func TestOwn(t *testing.T) {
	spoil := func(events []vrrp.Event) {
		events = events[:cap(events)]
		for at := range events {
			addrs := events[at].A.Addrs
			addrs = append(addrs[:cap(addrs)], "more")
			for k := range addrs {
				addrs[k] = "spoiled"
			}
			for k := range events[at].A.Addrs {
				events[at].A.Addrs[k] = "spoiled"
			}
			events[at] = vrrp.Event{Kind: 99, A: advert.Advert{Id: 99, Priority: 99, Every: 99, Addrs: addrs}}
		}
	}
	for _, c := range kinds() {
		m := made(t, c)
		m.Start()
		ticks(m, 10*c.Every)
		for range 4 {
			events := m.Out()
			for at := range events {
				others := showAll(slices.Delete(slices.Clone(events), at, at+1))
				spoil(events[at : at+1 : at+1])
				if left := showAll(slices.Delete(slices.Clone(events), at, at+1)); !slices.Equal(left, others) {
					t.Fatalf("P13.1: %s: two events share their Addrs: %q, and %q ahead of it", write(c), left, others)
				}
			}
			spoil(events)
			did(t, m, c, "", "Out behind Out")
			ticks(m, 3*c.Every)
			first := m.Out()
			kept := showAll(first)
			m.Take(lessFour, advert.Advert{Id: c.Id})
			m.Stop()
			m.Start()
			ticks(m, 5*c.Every)
			if !slices.Equal(showAll(first), kept) {
				t.Fatalf("P13.1: %s: what Out told changed to %q", write(c), showAll(first))
			}
			spoil(first)
			want := "s" + strconv.Itoa(c.Priority)
			if last := short(c, m.Out()); !strings.HasSuffix(last, want) && !strings.HasSuffix(last, "c") || strings.Contains(last, "?") {
				t.Fatalf("P13.1: %s: Out tells %s", write(c), last)
			}
			ticks(m, 9*c.Every)
		}
	}
}

// TestSideBySide: what one machine is told is none of the other ones', though they were handed the same.
func TestSideBySide(t *testing.T) {
	c := four(100, 10, true)
	l := []*watched{watch(t, c), watch(t, c), watch(t, six(200, 7, false))}
	chance := rand.New(rand.NewSource(4))
	for range 400 {
		for _, w := range l {
			act(chance, w)
			for _, other := range l {
				other.look("a call on another one")
			}
		}
		if chance.Intn(50) == 0 {
			refused(t, four(0, 10, true), "Priority")
			made(t, c).Start()
		}
	}
}

// TestSameCallsTellTheSame is R7, of many runs of one script.
func TestSameCallsTellTheSame(t *testing.T) {
	script := func() string {
		chance := rand.New(rand.NewSource(6))
		c := four(100, 10, true)
		m := made(t, c)
		text := ""
		for range 300 {
			word := fmt.Sprintf("%c%d/%d", "SXtttttlegpo"[chance.Intn(12)], chance.Intn(260), chance.Intn(40))
			text += play(m, c, word) + " "
		}
		return text
	}
	first := script()
	for range 20 {
		if script() != first {
			t.Fatal("P13.2: the same calls tell other than they told")
		}
	}
}

// observed is a machine of which nothing is known but what P13.4 says: how long it is not master, when a
// master sends, and when it claims.
type observed struct {
	t          *testing.T
	c          vrrp.Config
	m          *vrrp.Machine
	own        int
	now, heard int
	bound      bool // nothing has let the Down behind heard count no more
	gone       int  // how many Ticks since a master's timer ran Every
	led, sent  int
}

func (o *observed) setPriority(n int) {
	if o.m.SetPriority(n) {
		o.own, o.bound = n, false
	}
}

func (o *observed) take(from api.Addr, a advert.Advert) {
	o.m.Take(from, a)
	switch {
	case a.Id != o.c.Id || o.m.State() == isWaiting:
	case a.Priority == 0:
		o.bound = false
	case a.Priority >= o.own && o.m.State() == isBackup:
		o.bound, o.heard = true, o.now
	}
}

func (o *observed) stop() {
	o.m.Stop()
	o.bound = false
}

func (o *observed) tick() {
	o.m.Tick()
	o.now++
}

// act makes one call.
func (o *observed) act(chance *rand.Rand) {
	switch n := chance.Intn(60); {
	case n == 0:
		o.setPriority(1 + chance.Intn(255))
	case n == 1:
		o.stop()
	case n < 6:
		o.m.Start()
	case n < 12:
		o.take(heardFrom(chance, o.c), heardOf(chance, o.c))
	default:
		ticked := o.m.State() == isMaster
		o.tick()
		o.sends(ticked)
		return
	}
	o.claims(isWaiting)
}

// sends holds what a Tick sent against P13.4: a master sends at each Every-th, and not between.
func (o *observed) sends(master bool) {
	o.t.Helper()
	if !master {
		o.claims(isBackup)
		return
	}
	o.gone++
	want := ""
	if o.gone == o.c.Every {
		want = "s" + strconv.Itoa(o.own)
		o.gone = 0
		o.sent++
	}
	did(o.t, o.m, o.c, want, "a master's Tick (P13.4)")
}

// claims holds what was done by a call, but a Tick of a master, against P13.4: there is one claim, as it
// becomes master, and else none.
func (o *observed) claims(before int) {
	o.t.Helper()
	done := short(o.c, o.m.Out())
	becomes := "s" + strconv.Itoa(o.own) + ",c"
	switch {
	case done == becomes && o.m.State() == isMaster:
		o.gone = 0
		o.led++
		if before == isBackup && o.bound && o.now < o.heard+o.m.Down() {
			o.t.Fatalf("P13.4: %s is master at %d: it heard somebody at %d, and Down is %d", write(o.c), o.now, o.heard, o.m.Down())
		}
	case done == "s"+strconv.Itoa(o.own) && o.m.State() == isMaster:
		o.gone = 0
	case done == "s0" && o.m.State() == isWaiting:
	case done != "":
		o.t.Fatalf("P13.4: %s did %s, and is in state %d", write(o.c), done, o.m.State())
	}
}

// TestNotAhead is P13.4, in scripts of calls of all kinds. The Down that counts is the one of the tick at
// which it becomes master: whom it heard behind u may have had another pace.
func TestNotAhead(t *testing.T) {
	chance := rand.New(rand.NewSource(21))
	led, sent := 0, 0
	for _, c := range kinds() {
		o := &observed{t: t, c: c, m: made(t, c), own: c.Priority}
		for range 4000 {
			o.act(chance)
		}
		led, sent = led+o.led, sent+o.sent
	}
	if led < 1000 || sent < 1000 {
		t.Errorf("P13.4: of all machines %d became master, and %d sent again", led, sent)
	}
}

// TestSomebodyAtEachTick: a backup that hears somebody at each Tick is never master, though all of a Down and
// more goes on; and of one that hears somebody of no account at each Tick, nothing is put off.
func TestSomebodyAtEachTick(t *testing.T) {
	for _, c := range kinds() {
		m := made(t, c)
		if c.Priority == 255 {
			continue
		}
		m.Start()
		down := m.Down()
		for range 3 * down {
			m.Tick()
			m.Take(lessFour, advert.Advert{Id: c.Id, Priority: c.Priority, Every: c.Every})
			is(t, m, isBackup, down, "somebody at each Tick")
		}
		below := c.Priority - 1
		if below == 0 {
			below = -1 // 0 would be of account
		}
		for left := down - 1; left > 0; left-- {
			m.Tick()
			m.Take(moreFour, advert.Advert{Id: c.Id + 1, Priority: 255, Every: c.Every})
			if c.Preempt {
				m.Take(moreFour, advert.Advert{Id: c.Id, Priority: below, Every: c.Every})
			}
			is(t, m, isBackup, left, "somebody of no account at each Tick")
		}
	}
	// One whose skew begins anew at each Tick is not master either.
	m := made(t, four(100, 100, true))
	m.Start()
	for range 500 {
		m.Tick()
		m.Take(lessFour, says(0, 100))
		is(t, m, isBackup, 60, "somebody leaves at each Tick")
	}
}

// TestWithoutASound: who hears nobody is master behind a whole Down, and not ahead of it.
func TestWithoutASound(t *testing.T) {
	for _, c := range kinds() {
		m := made(t, c)
		m.Start()
		if c.Priority == 255 {
			m.Take("\xff", advert.Advert{Id: c.Id, Priority: 256, Every: c.Every})
			m.Out()
		}
		for at := 1; at < m.Down(); at++ {
			m.Tick()
			is(t, m, isBackup, m.Down()-at, "nobody is heard")
			did(t, m, c, "", "nobody is heard")
		}
		m.Tick()
		is(t, m, isMaster, c.Every, "nobody was heard")
		did(t, m, c, "s"+strconv.Itoa(c.Priority)+",c", "nobody was heard")
	}
}

// wire is two machines that hear one another, at once and all of it.
type wire struct {
	t    *testing.T
	c    [2]vrrp.Config
	m    [2]*vrrp.Machine
	deaf bool // neither hears the other one
	sent [2]int
	led  [2]int // how often each became master
}

func lay(t *testing.T, one, other vrrp.Config) *wire {
	t.Helper()
	return &wire{t: t, c: [2]vrrp.Config{one, other}, m: [2]*vrrp.Machine{made(t, one), made(t, other)}}
}

// carry lets each hear what the other one sent, till nobody sends any more.
func (w *wire) carry() {
	for {
		one, other := w.m[0].Out(), w.m[1].Out()
		if len(one)+len(other) == 0 {
			return
		}
		w.tell(0, one)
		w.tell(1, other)
	}
}

func (w *wire) tell(from int, events []vrrp.Event) {
	for _, e := range events {
		switch {
		case e.Kind == isClaimed:
			w.led[from]++
		case !w.deaf:
			w.sent[from]++
			w.m[1-from].Take(w.c[from].From, e.A)
		}
	}
}

func (w *wire) start(who int) {
	w.m[who].Start()
	w.carry()
}

func (w *wire) stop(who int) {
	w.m[who].Stop()
	w.carry()
}

// ticks lets time go on, and holds at each Tick that not both are master.
func (w *wire) ticks(many int) {
	w.t.Helper()
	for range many {
		w.m[0].Tick()
		w.m[1].Tick()
		w.carry()
		if !w.deaf && w.m[0].State() == isMaster && w.m[1].State() == isMaster {
			w.t.Fatalf("P13.4: both are master: %s and %s", write(w.c[0]), write(w.c[1]))
		}
	}
}

// are holds both states against what they must be.
func (w *wire) are(one, other int, what string) {
	w.t.Helper()
	if w.m[0].State() != one || w.m[1].State() != other {
		w.t.Fatalf("P13.4: %s: %s and %s: States are %d and %d, not %d and %d", what, write(w.c[0]), write(w.c[1]), w.m[0].State(), w.m[1].State(), one, other)
	}
}

// couples are two Configs each, of which the first one's Priority is greater, or its address where they are
// alike; of both kinds of address, of like and unlike paces.
func couples() [][2]vrrp.Config {
	var l [][2]vrrp.Config
	for _, preempts := range []bool{false, true} {
		for _, x := range [][4]int{{100, 99, 10, 10}, {254, 1, 10, 10}, {200, 100, 1, 1}, {100, 99, 1, 1}, {100, 99, 100, 100}, {2, 1, 3, 3}, {254, 253, 7, 7}, {150, 50, 20, 20}, {100, 100, 10, 10}, {1, 1, 1, 1}, {254, 254, 50, 50}, {200, 150, 10, 12}, {200, 150, 12, 10}, {100, 100, 9, 8}} {
			one, other := four(x[0], x[2], preempts), four(x[1], x[3], preempts)
			one.From = moreFour
			l = append(l, [2]vrrp.Config{one, other})
			one, other = six(x[0], x[2], preempts), six(x[1], x[3], preempts)
			one.From = moreSix
			l = append(l, [2]vrrp.Config{one, other})
		}
	}
	return l
}

// TestTwo is of two that hear one another: the greater one is master, and where it is gone, or is stopped,
// the other one is.
func TestTwo(t *testing.T) {
	for _, x := range couples() {
		w := lay(t, x[0], x[1])
		w.start(0)
		w.start(1)
		w.ticks(max(w.m[0].Down(), w.m[1].Down()))
		if w.m[1].State() == isMaster { // its pace was the shorter one
			w.stop(1)
			w.ticks(w.m[0].Wait())
			w.start(1)
		}
		w.are(isMaster, isBackup, "the greater one is master")
		led := w.led
		w.ticks(20 * x[0].Every)
		w.are(isMaster, isBackup, "the greater one is master yet")
		if w.led != led {
			t.Errorf("P13.4: %s and %s: %v claims, and %v", write(x[0]), write(x[1]), led, w.led)
		}

		// It is gone without a sound, just behind what it sent.
		w.ticks(w.m[0].Wait())
		down := w.m[1].Down()
		is(t, w.m[1], isBackup, down, "it was just heard")
		w.deaf = true
		w.ticks(down - 1)
		w.are(isMaster, isBackup, "ahead of Down")
		w.ticks(1)
		w.are(isMaster, isMaster, "at Down")

		// It is back: the other one yields.
		w.deaf = false
		for range max(x[0].Every, x[1].Every) {
			w.m[0].Tick()
			w.m[1].Tick()
			w.carry()
		}
		w.are(isMaster, isBackup, "they hear one another again")

		// It is stopped: the other one is master behind its skew.
		w.stop(0)
		skew := max(vrrp.Skew(x[1].Priority, x[0].Every), 1)
		is(t, w.m[1], isBackup, skew, "the master is stopped")
		w.ticks(skew - 1)
		w.are(isWaiting, isBackup, "ahead of the skew's end")
		w.ticks(1)
		w.are(isWaiting, isMaster, "the skew's end")
		w.comesBack()
	}
}

// comesBack lets the greater one start again, while the other one is master: it becomes so if it preempts,
// and if it is greater by its Priority.
func (w *wire) comesBack() {
	w.t.Helper()
	led := w.led
	w.start(0)
	is(w.t, w.m[0], isBackup, w.m[0].Down(), "Start")
	greater := w.c[0].Priority > w.c[1].Priority
	if greater && w.c[0].Preempt {
		down := w.m[0].Down()
		w.ticks(down - 1)
		w.are(isBackup, isMaster, "ahead of Down")
		w.ticks(1)
		w.are(isMaster, isBackup, "at Down")
		if w.led[0] != led[0]+1 || w.led[1] != led[1] {
			w.t.Errorf("P13.4: %v claims, and %v ahead of it", w.led, led)
		}
		return
	}
	if w.c[0].Every > w.c[1].Every || !greater && w.c[0].Every == w.c[1].Every || !w.c[0].Preempt {
		w.ticks(20 * w.c[1].Every)
		w.are(isBackup, isMaster, "one that has no cause to be master")
	}
}

// TestPriorityFalls: a master whose Priority falls below the other one's yields to it, if that one preempts.
func TestPriorityFalls(t *testing.T) {
	for _, every := range []int{1, 5, 100} {
		for _, preempt := range []bool{false, true} {
			one, other := four(200, every, preempt), four(100, every, preempt)
			one.From = lessFour
			w := lay(t, one, other)
			w.start(0)
			w.start(1)
			w.ticks(w.m[1].Down())
			w.are(isMaster, isBackup, "the greater one is master")
			w.m[0].SetPriority(50)
			w.ticks(every)
			down := w.m[1].Down()
			w.ticks(down)
			if !preempt {
				w.ticks(5 * down)
				w.are(isMaster, isBackup, "the other one does not preempt")
				continue
			}
			w.are(isBackup, isMaster, "its Priority fell")
			w.m[0].SetPriority(200)
			w.ticks(w.m[0].Down() + every)
			w.are(isMaster, isBackup, "its Priority rose")
		}
	}
}
