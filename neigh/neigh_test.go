package neigh_test

import (
	"bytes"
	"math"
	"math/rand"
	"strings"
	"testing"

	"outrider/api"
	"outrider/ether"
	"outrider/ipv"
	"outrider/neigh"
)

const (
	four1 = api.Addr("\x0a\x00\x00\x01")
	four2 = api.Addr("\xc0\xa8\x07\xc8")
	six1  = api.Addr("\xfe\x80\x00\x00\x00\x00\x00\x00\x00\x00\x00\x00\x00\x01\x02\x03")
	six2  = api.Addr("0123456789abcdef")
)

// Two cards, no byte of which is twice in them.
var (
	mac1 = api.Mac{0x02, 0x13, 0x24, 0x35, 0x46, 0x57}
	mac2 = api.Mac{0x68, 0x79, 0x8a, 0x9b, 0xac, 0xbd}
)

// plainPut is the sum of chapter 1, of an even number of bytes, ready to be put.
func plainPut(b string) int {
	n := 0
	for i := 0; i < len(b); i += 2 {
		n += int(b[i])*256 + int(b[i+1])
		if n > 65535 {
			n -= 65535
		}
	}
	return 65535 - n
}

// plainPseudo is what chapter 3 says of Pseudo, for an ND between addresses of 16 bytes.
func plainPseudo(from, to string) string {
	return from + to + "\x00\x00\x00\x20\x00\x00\x00\x3a"
}

// plainArp says what the chapter says of an ARP, and of the frame that it is in.
func plainArp(to, mac api.Mac, what byte, sender api.Addr, other api.Mac, target api.Addr) string {
	return string(to[:]) + string(mac[:]) + "\x08\x06" +
		"\x00\x01\x08\x00\x06\x04\x00" + string([]byte{what}) + string(mac[:]) + string(sender) + string(other[:]) + string(target)
}

// nd is an ND of which all can be amiss.
type nd struct {
	to, mac            api.Mac
	from, dest         api.Addr
	proto, ttl         byte
	what, second       byte
	flags              string
	target             api.Addr
	option, optionNext byte
	card               api.Mac
}

// body is what the chapter says of an ND, with the sum that makes it good.
func (n nd) body() string {
	start := string([]byte{n.what, n.second})
	rest := n.flags + string(n.target) + string([]byte{n.option, n.optionNext}) + string(n.card[:])
	sum := plainPut(plainPseudo(string(n.from), string(n.dest)) + start + "\x00\x00" + rest)
	return start + string([]byte{byte(sum / 256), byte(sum % 256)}) + rest
}

// packet is what chapter 3 says of the packet that a body is in.
func (n nd) packet(body string) string {
	return "\x60\x00\x00\x00" + string([]byte{byte(len(body) / 256), byte(len(body) % 256), n.proto, n.ttl}) + string(n.from) + string(n.dest) + body
}

// bytes is the frame.
func (n nd) bytes() string {
	return string(n.to[:]) + string(n.mac[:]) + "\x86\xdd" + n.packet(n.body())
}

// frame is what neigh.Read is given.
func (n nd) frame() ether.Frame {
	return ether.Frame{To: n.to, From: n.mac, Type: 0x86dd, Body: n.packet(n.body())}
}

// asks is an ND that asks, and nothing is amiss of it; tells is one that tells.
func asks(mac api.Mac, from, target api.Addr) nd {
	near := api.Addr("\xff\x02\x00\x00\x00\x00\x00\x00\x00\x00\x00\x01\xff") + target[13:]
	return nd{to: api.Mac{0x33, 0x33, 0xff, target[13], target[14], target[15]}, mac: mac, from: from, dest: near, proto: 0x3a, ttl: 0xff,
		what: 0x87, flags: "\x00\x00\x00\x00", target: target, option: 1, optionNext: 1, card: mac}
}

func tells(mac api.Mac, addr api.Addr, to api.Mac, asker api.Addr) nd {
	return nd{to: to, mac: mac, from: addr, dest: asker, proto: 0x3a, ttl: 0xff,
		what: 0x88, flags: "\x60\x00\x00\x00", target: addr, option: 2, optionNext: 1, card: mac}
}

func claims(mac api.Mac, addr api.Addr) nd {
	n := tells(mac, addr, api.Mac{0x33, 0x33, 0, 0, 0, 1}, api.Addr("\xff\x02"+strings.Repeat("\x00", 13)+"\x01"))
	n.flags = "\x20\x00\x00\x00"
	return n
}

// everyCard is the address of all cards, and noCard that of none.
var (
	everyCard = api.Mac{0xff, 0xff, 0xff, 0xff, 0xff, 0xff}
	noCard    = api.Mac{}
)

func arpAsks(mac api.Mac, from, target api.Addr) string {
	return plainArp(everyCard, mac, 1, from, noCard, target)
}

func arpTells(mac api.Mac, addr api.Addr, to api.Mac, asker api.Addr) string {
	return plainArp(to, mac, 2, addr, to, asker)
}

func someMac(r *rand.Rand) api.Mac {
	switch r.Intn(8) {
	case 0:
		return noCard
	case 1:
		return everyCard
	}
	var m api.Mac
	r.Read(m[:])
	return m
}

func someAddr(r *rand.Rand, many int) api.Addr {
	switch r.Intn(8) {
	case 0:
		return api.Addr(strings.Repeat("\x00", many))
	case 1:
		return api.Addr(strings.Repeat("\xff", many))
	case 2:
		return api.Addr(("\xff\x02" + strings.Repeat("\x00", 13) + "\x01")[:many])
	}
	b := make([]byte, many)
	r.Read(b)
	return api.Addr(b)
}

func checkWritten(t *testing.T, promise string, b []byte, e api.Errno, want string) {
	t.Helper()
	if e != api.OK || string(b) != want {
		t.Errorf("%s: %x %d, not %x", promise, b, e, want)
	}
}

func checkRefused(t *testing.T, promise string, b []byte, e api.Errno) {
	t.Helper()
	if e != api.ErrArg || len(b) != 0 {
		t.Errorf("%s: not refused: %x %d", promise, b, e)
	}
}

func checkRead(t *testing.T, name string, f ether.Frame, want neigh.Note) {
	t.Helper()
	if n, e := neigh.Read(f); e != api.OK || n != want {
		t.Errorf("P4.4: %s: Read of %04x %x: %#v %d, not %#v", name, f.Type, f.Body, n, e, want)
	}
}

func checkErr(t *testing.T, name string, f ether.Frame, want api.Errno) {
	t.Helper()
	if n, e := neigh.Read(f); e != want || n != (neigh.Note{}) {
		t.Errorf("P4.4: %s: Read of %04x %x: %#v %d, not %d", name, f.Type, f.Body, n, e, want)
	}
}

func arpFrame(body string) ether.Frame {
	return ether.Frame{To: mac2, From: mac1, Type: 0x0806, Body: body}
}

func sixFrame(body string) ether.Frame {
	return ether.Frame{To: mac2, From: mac1, Type: 0x86dd, Body: body}
}

func TestNear(t *testing.T) {
	for _, x := range []struct{ a, want api.Addr }{
		{six1, "\xff\x02\x00\x00\x00\x00\x00\x00\x00\x00\x00\x01\xff\x01\x02\x03"},
		{six2, "\xff\x02\x00\x00\x00\x00\x00\x00\x00\x00\x00\x01\xffdef"},
		{api.Addr(strings.Repeat("\x00", 16)), "\xff\x02\x00\x00\x00\x00\x00\x00\x00\x00\x00\x01\xff\x00\x00\x00"},
		{api.Addr(strings.Repeat("\xff", 16)), "\xff\x02\x00\x00\x00\x00\x00\x00\x00\x00\x00\x01\xff\xff\xff\xff"},
	} {
		if a := neigh.Near(x.a); a != x.want {
			t.Errorf("P4.1: Near(%x) is %x, not %x", x.a, a, x.want)
		}
		if again := neigh.Near(neigh.Near(x.a)); again != x.want {
			t.Errorf("P4.1: Near(Near(%x)) is %x, not %x", x.a, again, x.want)
		}
	}
	for many := range 300 {
		if a := neigh.Near(api.Addr(strings.Repeat("a", many))); (len(a) == 0) == (many == 16) {
			t.Errorf("P4.1: Near of %d bytes is %x", many, a)
		}
	}
}

func TestAskWritesEveryByte(t *testing.T) {
	b, e := neigh.Ask(mac1, four1, four2)
	checkWritten(t, "P4.1", b, e, "\xff\xff\xff\xff\xff\xff\x02\x13\x24\x35\x46\x57\x08\x06"+
		"\x00\x01\x08\x00\x06\x04\x00\x01\x02\x13\x24\x35\x46\x57\x0a\x00\x00\x01\x00\x00\x00\x00\x00\x00\xc0\xa8\x07\xc8")
	b, e = neigh.Ask(mac1, six2, six1)
	checkWritten(t, "P4.1", b, e, "\x33\x33\xff\x01\x02\x03\x02\x13\x24\x35\x46\x57\x86\xdd"+
		"\x60\x00\x00\x00\x00\x20\x3a\xff0123456789abcdef\xff\x02\x00\x00\x00\x00\x00\x00\x00\x00\x00\x01\xff\x01\x02\x03"+
		"\x87\x00\xdb\x3f\x00\x00\x00\x00\xfe\x80\x00\x00\x00\x00\x00\x00\x00\x00\x00\x00\x00\x01\x02\x03\x01\x01\x02\x13\x24\x35\x46\x57")
	r := rand.New(rand.NewSource(1))
	for range 2000 {
		mac, from, target := someMac(r), someAddr(r, 4), someAddr(r, 4)
		b, e := neigh.Ask(mac, from, target)
		checkWritten(t, "P4.1", b, e, arpAsks(mac, from, target))
		from, target = someAddr(r, 16), someAddr(r, 16)
		b, e = neigh.Ask(mac, from, target)
		checkWritten(t, "P4.1", b, e, asks(mac, from, target).bytes())
	}
}

func TestTellWritesEveryByte(t *testing.T) {
	b, e := neigh.Tell(mac1, four1, mac2, four2)
	checkWritten(t, "P4.2", b, e, "\x68\x79\x8a\x9b\xac\xbd\x02\x13\x24\x35\x46\x57\x08\x06"+
		"\x00\x01\x08\x00\x06\x04\x00\x02\x02\x13\x24\x35\x46\x57\x0a\x00\x00\x01\x68\x79\x8a\x9b\xac\xbd\xc0\xa8\x07\xc8")
	b, e = neigh.Tell(mac1, six1, mac2, six2)
	checkWritten(t, "P4.2", b, e, "\x68\x79\x8a\x9b\xac\xbd\x02\x13\x24\x35\x46\x57\x86\xdd"+
		"\x60\x00\x00\x00\x00\x20\x3a\xff\xfe\x80\x00\x00\x00\x00\x00\x00\x00\x00\x00\x00\x00\x01\x02\x030123456789abcdef"+
		"\x88\x00\x78\xc3\x60\x00\x00\x00\xfe\x80\x00\x00\x00\x00\x00\x00\x00\x00\x00\x00\x00\x01\x02\x03\x02\x01\x02\x13\x24\x35\x46\x57")
	r := rand.New(rand.NewSource(2))
	for range 2000 {
		mac, addr, to, asker := someMac(r), someAddr(r, 4), someMac(r), someAddr(r, 4)
		b, e := neigh.Tell(mac, addr, to, asker)
		checkWritten(t, "P4.2", b, e, arpTells(mac, addr, to, asker))
		addr, asker = someAddr(r, 16), someAddr(r, 16)
		b, e = neigh.Tell(mac, addr, to, asker)
		checkWritten(t, "P4.2", b, e, tells(mac, addr, to, asker).bytes())
	}
}

func TestClaimWritesEveryByte(t *testing.T) {
	b, e := neigh.Claim(mac1, four2)
	checkWritten(t, "P4.3", b, e, "\xff\xff\xff\xff\xff\xff\x02\x13\x24\x35\x46\x57\x08\x06"+
		"\x00\x01\x08\x00\x06\x04\x00\x01\x02\x13\x24\x35\x46\x57\xc0\xa8\x07\xc8\x00\x00\x00\x00\x00\x00\xc0\xa8\x07\xc8")
	b, e = neigh.Claim(mac1, six1)
	checkWritten(t, "P4.3", b, e, "\x33\x33\x00\x00\x00\x01\x02\x13\x24\x35\x46\x57\x86\xdd"+
		"\x60\x00\x00\x00\x00\x20\x3a\xff\xfe\x80\x00\x00\x00\x00\x00\x00\x00\x00\x00\x00\x00\x01\x02\x03"+
		"\xff\x02\x00\x00\x00\x00\x00\x00\x00\x00\x00\x00\x00\x00\x00\x01"+
		"\x88\x00\xe8\xf6\x20\x00\x00\x00\xfe\x80\x00\x00\x00\x00\x00\x00\x00\x00\x00\x00\x00\x01\x02\x03\x02\x01\x02\x13\x24\x35\x46\x57")
	r := rand.New(rand.NewSource(3))
	for range 2000 {
		mac, addr := someMac(r), someAddr(r, 4)
		b, e := neigh.Claim(mac, addr)
		checkWritten(t, "P4.3", b, e, arpAsks(mac, addr, addr))
		addr = someAddr(r, 16)
		b, e = neigh.Claim(mac, addr)
		checkWritten(t, "P4.3", b, e, claims(mac, addr).bytes())
	}
}

func TestAddressesOfEveryLength(t *testing.T) {
	for i := range 40 {
		one := api.Addr(strings.Repeat("a", i))
		for j := range 40 {
			other := api.Addr(strings.Repeat("b", j))
			asked, e1 := neigh.Ask(mac1, one, other)
			told, e2 := neigh.Tell(mac1, one, mac2, other)
			switch {
			case i == 4 && j == 4:
				checkWritten(t, "P4.1", asked, e1, arpAsks(mac1, one, other))
				checkWritten(t, "P4.2", told, e2, arpTells(mac1, one, mac2, other))
			case i == 16 && j == 16:
				checkWritten(t, "P4.1", asked, e1, asks(mac1, one, other).bytes())
				checkWritten(t, "P4.2", told, e2, tells(mac1, one, mac2, other).bytes())
			default:
				checkRefused(t, "P4.1", asked, e1)
				checkRefused(t, "P4.2", told, e2)
			}
		}
		claimed, e := neigh.Claim(mac1, one)
		switch i {
		case 4:
			checkWritten(t, "P4.3", claimed, e, arpAsks(mac1, one, one))
		case 16:
			checkWritten(t, "P4.3", claimed, e, claims(mac1, one).bytes())
		default:
			checkRefused(t, "P4.3", claimed, e)
		}
	}
	for _, many := range []int{256 + 4, 256 + 16, 1460, 1 << 16, 1<<16 + 4, 1<<16 + 16} {
		long := api.Addr(strings.Repeat("a", many))
		for _, other := range []api.Addr{long, four1, six1, ""} {
			for _, pair := range [][2]api.Addr{{long, other}, {other, long}} {
				b, e := neigh.Ask(mac1, pair[0], pair[1])
				checkRefused(t, "P4.1", b, e)
				b, e = neigh.Tell(mac1, pair[0], mac2, pair[1])
				checkRefused(t, "P4.2", b, e)
			}
		}
		b, e := neigh.Claim(mac1, long)
		checkRefused(t, "P4.3", b, e)
	}
}

// arpBody is an ARP that tells, without its frame, of 28 bytes.
func arpBody() string {
	return arpTells(mac1, four1, mac2, four2)[14:]
}

func TestReadArpOfEveryLength(t *testing.T) {
	want := neigh.Note{Kind: 2, Mac: mac1, Addr: four1, Target: four2, Asked: true}
	for _, fill := range []string{"\x00", "\x01", "\xff"} {
		whole := arpBody() + strings.Repeat(fill, 40)
		for many := range len(whole) + 1 {
			if many < 28 {
				checkErr(t, "an ARP that is short", arpFrame(whole[:many]), api.ErrNeighForm)
			} else {
				checkRead(t, "an ARP with something behind", arpFrame(whole[:many]), want)
			}
		}
	}
	checkRead(t, "an ARP with another behind", arpFrame(arpBody()+arpBody()), want)
	checkRead(t, "an ARP with much behind", arpFrame(arpBody()+strings.Repeat("x", 100000)), want)
	checkErr(t, "an ARP behind something", arpFrame("\x00"+arpBody()), api.ErrNeighForm)
}

func TestReadArpOfEachByte(t *testing.T) {
	for at := range 7 {
		for n := range 256 {
			b := []byte(arpBody())
			was := b[at]
			b[at] = byte(n)
			if b[at] == was {
				checkRead(t, "an ARP", arpFrame(string(b)), neigh.Note{Kind: 2, Mac: mac1, Addr: four1, Target: four2, Asked: true})
			} else {
				checkErr(t, "an ARP that begins otherwise", arpFrame(string(b)), api.ErrNeighForm)
			}
		}
	}
	for n := range 256 {
		b := []byte(arpBody())
		b[7] = byte(n)
		switch n {
		case 1:
			checkRead(t, "an ARP that asks", arpFrame(string(b)), neigh.Note{Kind: 1, Mac: mac1, Addr: four1, Target: four2})
		case 2:
			checkRead(t, "an ARP that tells", arpFrame(string(b)), neigh.Note{Kind: 2, Mac: mac1, Addr: four1, Target: four2, Asked: true})
		default:
			checkErr(t, "an ARP that says something else", arpFrame(string(b)), api.ErrNeighForm)
		}
	}
}

// What an ARP says stands in its Body alone, and the other card is not looked at.
func TestReadArpOfItsBodyAlone(t *testing.T) {
	want := neigh.Note{Kind: 2, Mac: mac1, Addr: four1, Target: four2, Asked: true}
	for _, card := range []api.Mac{noCard, everyCard, mac1, mac2} {
		body := plainArp(mac2, mac1, 2, four1, card, four2)[14:]
		checkRead(t, "an ARP with another card", ether.Frame{To: card, From: card, Type: 0x0806, Body: body}, want)
	}
	for _, a := range []api.Addr{"\x00\x00\x00\x00", "\xff\xff\xff\xff"} {
		body := plainArp(mac2, noCard, 1, a, everyCard, a)[14:]
		checkRead(t, "an ARP of no address", arpFrame(body), neigh.Note{Kind: 1, Addr: a, Target: a})
	}
}

func TestReadNdOfBothForms(t *testing.T) {
	ask, tell := asks(mac1, six1, six2), tells(mac1, six1, mac2, six2)
	checkRead(t, "an ND that asks", ask.frame(), neigh.Note{Kind: 1, Mac: mac1, Addr: six1, Target: six2})
	checkRead(t, "an ND that tells", tell.frame(), neigh.Note{Kind: 2, Mac: mac1, Addr: six1, Target: six2, Asked: true})
	// Who sends the frame, and to which card, is not asked; nor is to whom the packet goes.
	ask.to, ask.mac, ask.card, ask.dest = noCard, noCard, mac2, six1
	checkRead(t, "an ND that asks", ask.frame(), neigh.Note{Kind: 1, Mac: mac2, Addr: six1, Target: six2})
	// What is told of is the target, not the packet's sender.
	tell.to, tell.mac, tell.card, tell.from = noCard, noCard, mac2, six2
	checkRead(t, "an ND that tells", tell.frame(), neigh.Note{Kind: 2, Mac: mac2, Addr: six1, Target: six2, Asked: true})
}

func TestReadNdOfEachByteOfItsForm(t *testing.T) {
	for what := range 256 {
		for option := range 256 {
			n := tells(mac1, six1, mac2, six2)
			n.what, n.option = byte(what), byte(option)
			switch {
			case what == 0x87 && option == 1:
				checkRead(t, "an ND that asks", n.frame(), neigh.Note{Kind: 1, Mac: mac1, Addr: six1, Target: six1})
			case what == 0x88 && option == 2:
				checkRead(t, "an ND that tells", n.frame(), neigh.Note{Kind: 2, Mac: mac1, Addr: six1, Target: six2, Asked: true})
			default:
				checkErr(t, "an ND of another form", n.frame(), api.ErrNeighForm)
			}
		}
	}
	for k := range 256 {
		for _, n := range []nd{asks(mac1, six1, six2), tells(mac1, six1, mac2, six2)} {
			second, option := n, n
			second.second = byte(k)
			option.optionNext = byte(k)
			if k != 0 {
				checkErr(t, "an ND with another second byte", second.frame(), api.ErrNeighForm)
			}
			if k != 1 {
				checkErr(t, "an ND with another option's second byte", option.frame(), api.ErrNeighForm)
			}
		}
	}
}

func TestReadNdOfEveryFlag(t *testing.T) {
	for at := range 4 {
		for k := range 256 {
			flags := []byte{0, 0, 0, 0}
			flags[at] = byte(k)
			ask, tell := asks(mac1, six1, six2), tells(mac1, six1, mac2, six2)
			ask.flags, tell.flags = string(flags), string(flags)
			checkRead(t, "an ND that asks", ask.frame(), neigh.Note{Kind: 1, Mac: mac1, Addr: six1, Target: six2})
			asked := at == 0 && k/64%2 == 1
			checkRead(t, "an ND that tells", tell.frame(), neigh.Note{Kind: 2, Mac: mac1, Addr: six1, Target: six2, Asked: asked})
		}
	}
}

func TestReadNdOfEveryProtoAndTtl(t *testing.T) {
	for k := range 256 {
		for _, n := range []nd{asks(mac1, six1, six2), tells(mac1, six1, mac2, six2)} {
			proto, ttl := n, n
			proto.proto, ttl.ttl = byte(k), byte(k)
			if k != 0x3a {
				checkErr(t, "an ND of another Proto", proto.frame(), api.ErrNeighForm)
			}
			if k != 0xff {
				checkErr(t, "an ND of another Ttl", ttl.frame(), api.ErrNeighForm)
			}
		}
	}
}

// The sum that fits stands in each of them, so that nothing but the length is amiss.
func TestReadNdOfEveryLength(t *testing.T) {
	for _, n := range []nd{asks(mac1, six1, six2), tells(mac1, six1, mac2, six2)} {
		want, _ := neigh.Read(n.frame())
		whole := n.body() + strings.Repeat("\x00", 40)
		for many := range len(whole) + 1 {
			body := whole[:many]
			if many == 32 {
				checkRead(t, "an ND", sixFrame(n.packet(body)), want)
				continue
			}
			checkErr(t, "an ND of another length", sixFrame(n.packet(body)), api.ErrNeighForm)
			if many >= 4 {
				b := []byte(body)
				b[2], b[3] = 0, 0
				long := string([]byte{0, 0, byte(many / 256), byte(many)})
				sum := plainPut(string(n.from+n.dest) + long + "\x00\x00\x00\x3a" + string(b) + strings.Repeat("\x00", many%2))
				b[2], b[3] = byte(sum/256), byte(sum%256)
				checkErr(t, "an ND of another length, with its sum", sixFrame(n.packet(string(b))), api.ErrNeighForm)
			}
		}
		long := n.body() + strings.Repeat("\x00", 256)
		checkErr(t, "an ND that is much longer", sixFrame(n.packet(long)), api.ErrNeighForm)
		// What is behind the packet is no part of it.
		for _, behind := range []string{"\x00", "\xff", strings.Repeat("x", 6), strings.Repeat("y", 100000)} {
			checkRead(t, "an ND with something behind its packet", sixFrame(n.packet(n.body())+behind), want)
		}
		for many := range len(n.packet(n.body())) {
			checkErr(t, "a packet that is short", sixFrame(n.packet(n.body())[:many]), api.ErrNeighForm)
		}
	}
}

func TestReadNdOfOtherPackets(t *testing.T) {
	n := tells(mac1, six1, mac2, six2)
	for first := range 256 {
		b := []byte(n.packet(n.body()))
		b[0] = byte(first)
		if first/16 == 6 {
			checkRead(t, "an ND", sixFrame(string(b)), neigh.Note{Kind: 2, Mac: mac1, Addr: six1, Target: six2, Asked: true})
		} else {
			checkErr(t, "an ND of another version", sixFrame(string(b)), api.ErrNeighForm)
		}
	}
	// In a packet of version 4 it is none, whether its sum is good with those addresses or not.
	start, rest := n.body()[:2], n.body()[4:]
	sum := plainPut(string(four1+four2) + "\x00\x3a\x00\x20" + start + "\x00\x00" + rest)
	good := start + string([]byte{byte(sum / 256), byte(sum % 256)}) + rest
	for _, body := range []string{n.body(), good} {
		p, e := ipv.Encode(api.Ip{From: four1, To: four2, Proto: 0x3a, Ttl: 0xff, Body: body})
		if e != api.OK {
			t.Fatal(e)
		}
		checkErr(t, "an ND in a packet of version 4", sixFrame(string(p)), api.ErrNeighForm)
	}
}

// otherSums are other sums than the one that an ND has, none of which counts as the same.
func otherSums(sum int) []int {
	var all []int
	for k := range 16 {
		all = append(all, sum^1<<k)
	}
	all = append(all, (sum+1)%65536, (sum+65535)%65536, 65535-sum, sum/256+sum%256*256, 0, 65535)
	var others []int
	for _, other := range all {
		if other%65535 != sum%65535 {
			others = append(others, other)
		}
	}
	return others
}

func TestReadNdOfSumsThatAreNotGood(t *testing.T) {
	for _, n := range []nd{asks(mac1, six1, six2), tells(mac1, six1, mac2, six2), claims(mac1, six2)} {
		b := []byte(n.packet(n.body()))
		for _, sum := range otherSums(int(b[42])*256 + int(b[43])) {
			c := bytes.Clone(b)
			c[42], c[43] = byte(sum/256), byte(sum%256)
			checkErr(t, "an ND with another sum", sixFrame(string(c)), api.ErrNeighSum)
		}
		// A bit of an address of the packet, or of what is not of the form, is in the sum.
		for at := 8; at < len(b); at++ {
			if at == 40 || at == 41 || at == 64 || at == 65 {
				continue
			}
			for k := range 8 {
				c := bytes.Clone(b)
				c[at] ^= 1 << k
				checkErr(t, "an ND with another bit", sixFrame(string(c)), api.ErrNeighSum)
			}
		}
	}
}

// A sum that counts as 0 is written 0000, and may come as ffff, too.
func TestSumThatCountsAsZero(t *testing.T) {
	n := tells(mac1, six1, mac2, six2)
	b := n.body()
	gap := plainPut(plainPseudo(string(six1), string(six2)) + b[:2] + "\x00\x00" + b[4:30] + "\x00\x00")
	n.mac[4], n.mac[5] = byte(gap/256), byte(gap%256)
	n.card = n.mac
	wrote, e := neigh.Tell(n.mac, six1, mac2, six2)
	checkWritten(t, "P4.2", wrote, e, n.bytes())
	if string(wrote[56:58]) != "\x00\x00" {
		t.Fatalf("the sum is %x", wrote[56:58])
	}
	want := neigh.Note{Kind: 2, Mac: n.mac, Addr: six1, Target: six2, Asked: true}
	checkRead(t, "a sum 0000", sixFrame(string(wrote[14:])), want)
	wrote[56], wrote[57] = 0xff, 0xff
	checkRead(t, "a sum ffff", sixFrame(string(wrote[14:])), want)
}

// With two things amiss of an ND, of which one is the sum, the other one is told.
func TestReadTellsTheFirstThingAmiss(t *testing.T) {
	for name, spoil := range map[string]func(n *nd){
		"Proto":           func(n *nd) { n.proto = 0x39 },
		"Ttl":             func(n *nd) { n.ttl = 0xfe },
		"the first byte":  func(n *nd) { n.what = 0x86 },
		"the other form":  func(n *nd) { n.what ^= 0x87 ^ 0x88 },
		"the second byte": func(n *nd) { n.second = 1 },
		"the option":      func(n *nd) { n.option = 3 },
		"the option's":    func(n *nd) { n.optionNext = 2 },
	} {
		for _, n := range []nd{asks(mac1, six1, six2), tells(mac1, six1, mac2, six2)} {
			spoil(&n)
			b := []byte(n.packet(n.body()))
			checkErr(t, name, sixFrame(string(b)), api.ErrNeighForm)
			b[43] ^= 1
			checkErr(t, name+" and the sum", sixFrame(string(b)), api.ErrNeighForm)
		}
	}
	for _, n := range []nd{asks(mac1, six1, six2), tells(mac1, six1, mac2, six2)} {
		body := []byte(n.body())
		body[2] ^= 1
		for _, other := range []string{string(body[:31]), string(body) + "\x00"} {
			checkErr(t, "the length and the sum", sixFrame(n.packet(other)), api.ErrNeighForm)
		}
		short := n.packet(string(body))
		checkErr(t, "the sum", sixFrame(short), api.ErrNeighSum)
		checkErr(t, "the packet and the sum", sixFrame(short[:len(short)-1]), api.ErrNeighForm)
		checkErr(t, "the version and the sum", sixFrame("\x70"+short[1:]), api.ErrNeighForm)
		checkErr(t, "the Type and the sum", ether.Frame{Type: 0x0800, Body: short}, api.ErrNeighForm)
	}
}

func TestReadOfOtherTypes(t *testing.T) {
	arp, six := arpBody(), tells(mac1, six1, mac2, six2).frame().Body
	types := []int{math.MinInt, math.MinInt + 0x0806, -0x0806, -1, 0, 1, 0x0800, 0x0805, 0x0807, 0x0608, 0x86dc, 0x86de, 0xdd86, 0x8100, 0xffff,
		0x10806, 0x186dd, 1<<32 + 0x0806, 1<<32 + 0x86dd, math.MaxInt}
	for _, kind := range types {
		for _, body := range []string{"", arp, six, "x"} {
			checkErr(t, "another Type", ether.Frame{To: mac2, From: mac1, Type: kind, Body: body}, api.ErrNeighForm)
		}
	}
	checkErr(t, "an ND of an ARP's Type", arpFrame(six), api.ErrNeighForm)
	checkErr(t, "an ARP of an ND's Type", sixFrame(arp), api.ErrNeighForm)
	checkErr(t, "no Body", arpFrame(""), api.ErrNeighForm)
	checkErr(t, "no Body", sixFrame(""), api.ErrNeighForm)
	checkErr(t, "no frame", ether.Frame{}, api.ErrNeighForm)
}

// plainRead says what P4.4 says, line by line.
func plainRead(f ether.Frame) (neigh.Note, api.Errno) {
	b := f.Body
	switch {
	case f.Type == 0x0806:
		if len(b) < 28 || b[:7] != "\x00\x01\x08\x00\x06\x04\x00" || b[7] != 1 && b[7] != 2 {
			return neigh.Note{}, api.ErrNeighForm
		}
		return neigh.Note{Kind: int(b[7]), Mac: api.Mac([]byte(b[8:14])), Addr: api.Addr(b[14:18]), Target: api.Addr(b[24:28]), Asked: b[7] == 2}, api.OK
	case f.Type != 0x86dd:
		return neigh.Note{}, api.ErrNeighForm
	}
	// Of an ND the packet says that its Body has 32 bytes, and has them.
	if len(b) < 72 || b[0]/16 != 6 || b[4:8] != "\x00\x20\x3a\xff" {
		return neigh.Note{}, api.ErrNeighForm
	}
	from, to, b := b[8:24], b[24:40], b[40:72]
	ask, tell := b[0] == 0x87 && b[24] == 1, b[0] == 0x88 && b[24] == 2
	if b[1] != 0 || !ask && !tell || b[25] != 1 {
		return neigh.Note{}, api.ErrNeighForm
	}
	if plainPut(plainPseudo(from, to)+b) != 0 {
		return neigh.Note{}, api.ErrNeighSum
	}
	n := neigh.Note{Kind: 1, Mac: api.Mac([]byte(b[26:32])), Addr: api.Addr(from), Target: api.Addr(b[8:24])}
	if tell {
		n.Kind, n.Addr, n.Target, n.Asked = 2, api.Addr(b[8:24]), api.Addr(to), b[4]/64%2 == 1
	}
	return n, api.OK
}

func TestReadOfAnyFrame(t *testing.T) {
	r := rand.New(rand.NewSource(4))
	seen := map[api.Errno]int{}
	for range 60000 {
		var b []byte
		f := ether.Frame{Type: []int{0x0800, 0x0806, 0x0806, 0x86dd, 0x86dd, 0x86dd, r.Intn(65536)}[r.Intn(7)]}
		switch r.Intn(5) {
		case 0:
			b = make([]byte, r.Intn(100))
			r.Read(b)
		case 1, 2:
			b = []byte(plainArp(mac1, someMac(r), byte(1+r.Intn(2)), someAddr(r, 4), someMac(r), someAddr(r, 4))[14:])
		case 3:
			b = []byte(asks(someMac(r), someAddr(r, 16), someAddr(r, 16)).frame().Body)
		case 4:
			b = []byte(tells(someMac(r), someAddr(r, 16), mac1, someAddr(r, 16)).frame().Body)
		}
		for range r.Intn(3) {
			if len(b) > 0 {
				b[r.Intn(len(b))] = byte(r.Intn(256))
			}
		}
		if r.Intn(4) == 0 {
			b = b[:r.Intn(len(b)+1)]
		}
		f.Body = string(b)
		n, e := neigh.Read(f)
		if want, errno := plainRead(f); n != want || e != errno {
			t.Errorf("P4.4: Read of %04x %x: %#v %d, not %#v %d", f.Type, f.Body, n, e, want, errno)
		}
		seen[e]++
	}
	for _, e := range []api.Errno{api.OK, api.ErrNeighForm, api.ErrNeighSum} {
		if seen[e] < 1000 {
			t.Errorf("P4.4: %d came only %d times", e, seen[e])
		}
	}
}

// checkSaid reads what was written, as it comes, with a card's padding behind it or without.
func checkSaid(t *testing.T, b []byte, e api.Errno, want neigh.Note) {
	t.Helper()
	for _, behind := range []string{"", "\x00", strings.Repeat("\x00", 18)} {
		f, errno := ether.Decode(append(bytes.Clone(b), behind...))
		n, read := neigh.Read(f)
		if e != api.OK || errno != api.OK || read != api.OK || n != want || f.From != want.Mac {
			t.Errorf("P4.5: %x, %d bytes behind it: %#v %d %d %d, not %#v", b, len(behind), n, e, errno, read, want)
		}
	}
}

func TestReadIsWhatWasSaid(t *testing.T) {
	r := rand.New(rand.NewSource(5))
	for range 2000 {
		for _, many := range []int{4, 16} {
			mac, to, one, other := someMac(r), someMac(r), someAddr(r, many), someAddr(r, many)
			b, e := neigh.Ask(mac, one, other)
			checkSaid(t, b, e, neigh.Note{Kind: 1, Mac: mac, Addr: one, Target: other})
			b, e = neigh.Tell(mac, one, to, other)
			checkSaid(t, b, e, neigh.Note{Kind: 2, Mac: mac, Addr: one, Target: other, Asked: true})
			b, e = neigh.Claim(mac, one)
			if many == 4 {
				checkSaid(t, b, e, neigh.Note{Kind: 1, Mac: mac, Addr: one, Target: one})
			} else {
				checkSaid(t, b, e, neigh.Note{Kind: 2, Mac: mac, Addr: one, Target: api.Addr("\xff\x02" + strings.Repeat("\x00", 13) + "\x01")})
			}
		}
	}
}

func TestFramesAreTheCallersOwn(t *testing.T) {
	for _, pair := range [][2]api.Addr{{four1, four2}, {six1, six2}} {
		for name, write := range map[string]func() ([]byte, api.Errno){
			"Ask":   func() ([]byte, api.Errno) { return neigh.Ask(mac1, pair[0], pair[1]) },
			"Tell":  func() ([]byte, api.Errno) { return neigh.Tell(mac1, pair[0], mac2, pair[1]) },
			"Claim": func() ([]byte, api.Errno) { return neigh.Claim(mac1, pair[0]) },
		} {
			one, _ := write()
			was := bytes.Clone(one)
			for k := range one {
				one[k] ^= 0xff
			}
			two, e := write()
			checkWritten(t, "R6: "+name, two, e, string(was))
		}
	}
}
