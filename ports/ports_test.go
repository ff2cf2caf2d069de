package ports_test

import (
	"math"
	"math/rand"
	"strings"
	"testing"

	"outrider/api"
	"outrider/ipv"
	"outrider/ports"
)

const (
	four1 = api.Addr("\x0a\x00\x00\x01")
	four2 = api.Addr("\xc0\xa8\x07\xc8")
	six1  = api.Addr("\xfe\x80\x00\x00\x00\x00\x00\x00\x00\x00\x00\x00\x00\x01\x02\x03")
	six2  = api.Addr("0123456789abcdef")
)

const (
	tcp   = 6
	udp   = 17
	icmp  = 1
	icmp6 = 58
)

// plainSum is the sum of chapter 1.
func plainSum(b string) int {
	if len(b)%2 == 1 {
		b += "\x00"
	}
	n := 0
	for i := 0; i < len(b); i += 2 {
		n += int(b[i])*256 + int(b[i+1])
		if n > 65535 {
			n -= 65535
		}
	}
	return n
}

// twoBytes is a number, the higher byte first.
func twoBytes(n int) string {
	return string([]byte{byte(n / 256), byte(n % 256)})
}

// plainPseudo is what chapter 3 says of Pseudo.
func plainPseudo(from, to api.Addr, proto, long int) string {
	switch {
	case len(from) == 4 && len(to) == 4:
		return string(from) + string(to) + twoBytes(proto) + twoBytes(long%65536)
	case len(from) == 16 && len(to) == 16:
		return string(from) + string(to) + twoBytes(long/65536) + twoBytes(long%65536) + "\x00\x00" + twoBytes(proto)
	}
	return ""
}

// sumPlace is where a body's sum is.
func sumPlace(proto int) int {
	switch proto {
	case tcp:
		return 16
	case udp:
		return 6
	}
	return 2
}

// plainPut is the sum that a packet's body is to have, whatever one it has.
func plainPut(p api.Ip) int {
	at := sumPlace(p.Proto)
	body := p.Body[:at] + "\x00\x00" + p.Body[at+2:]
	if p.Proto == icmp {
		return 65535 - plainSum(body)
	}
	return 65535 - plainSum(plainPseudo(p.From, p.To, p.Proto, len(body))+body)
}

// withSum is the packet with another sum.
func withSum(p api.Ip, sum int) api.Ip {
	at := sumPlace(p.Proto)
	p.Body = p.Body[:at] + twoBytes(sum) + p.Body[at+2:]
	return p
}

// summed is the packet with the sum that is right; of a body that has no place for it, as it is.
func summed(p api.Ip) api.Ip {
	if len(p.Body) < sumPlace(p.Proto)+2 {
		return p
	}
	return withSum(p, plainPut(p))
}

// plainWrite is what the chapter says of what Write tells, where it refuses nothing.
func plainWrite(p api.Ip, h ports.Head, data string) api.Ip {
	told := api.Ip{From: p.From, To: p.To, Ttl: p.Ttl, Proto: h.Proto}
	start := twoBytes(h.From) + twoBytes(h.To)
	if h.Proto == tcp {
		told.Body = start + strings.Repeat("\x00", 8) + "\x50" + string([]byte{byte(h.Flags)}) + "\xff\xff" + "\x00\x00" + "\x00\x00" + data
		return summed(told)
	}
	told.Body = start + twoBytes(8+len(data)) + "\x00\x00" + data
	if plainPut(told) == 0 {
		return withSum(told, 0xffff)
	}
	return summed(told)
}

// plainRead is what the chapter says of Read, in its order.
func plainRead(p api.Ip) (ports.Head, api.Errno) {
	none := ports.Head{}
	h := ports.Head{Proto: p.Proto}
	free := false
	switch p.Proto {
	case tcp:
		if len(p.Body) < 20 {
			return none, api.ErrPortsShort
		}
		h.At = int(p.Body[12]) / 16 * 4
		if h.At < 20 || h.At > len(p.Body) {
			return none, api.ErrPortsForm
		}
		h.Flags = int(p.Body[13]) % 64
	case udp:
		if len(p.Body) < 8 {
			return none, api.ErrPortsShort
		}
		if p.Body[4:6] != twoBytes(len(p.Body)) || len(p.Body) > 65535 {
			return none, api.ErrPortsForm
		}
		h.At = 8
		free = len(p.From) == 4 && len(p.To) == 4 && p.Body[6:8] == "\x00\x00"
	default:
		return none, api.ErrPortsProto
	}
	if !free && plainSum(plainPseudo(p.From, p.To, p.Proto, len(p.Body))+p.Body) != 65535 {
		return none, api.ErrPortsSum
	}
	if len(p.From) != len(p.To) || len(p.From) != 4 && len(p.From) != 16 {
		return none, api.ErrPortsForm
	}
	h.From = int(p.Body[0])*256 + int(p.Body[1])
	h.To = int(p.Body[2])*256 + int(p.Body[3])
	return h, api.OK
}

// plainQuoted is what the chapter says of Quoted, in its order.
func plainQuoted(p api.Ip) (api.Flow, api.Errno) {
	none := api.Flow{}
	if len(p.From) != len(p.To) || p.Body == "" {
		return none, api.ErrPortsProto
	}
	first := p.Body[0]
	is4 := p.Proto == icmp && len(p.From) == 4 && (first == 3 || first == 11)
	is6 := p.Proto == icmp6 && len(p.From) == 16 && (first == 1 || first == 2 || first == 3)
	if !is4 && !is6 {
		return none, api.ErrPortsProto
	}
	over := p.Body
	if is6 {
		over = plainPseudo(p.From, p.To, p.Proto, len(p.Body)) + over
	}
	if plainSum(over) != 65535 {
		return none, api.ErrPortsSum
	}
	if is4 && len(p.Body) < 8+24 || is6 && len(p.Body) < 8+44 {
		return none, api.ErrPortsForm
	}
	b := p.Body[8:]
	f, at := api.Flow{}, 0
	if is4 {
		f, at = api.Flow{Proto: int(b[9]), From: api.Addr(b[12:16]), To: api.Addr(b[16:20])}, 20
	} else {
		f, at = api.Flow{Proto: int(b[6]), From: api.Addr(b[8:24]), To: api.Addr(b[24:40])}, 40
	}
	if is4 && b[0] != 0x45 || is6 && b[0]/16 != 6 || f.Proto != tcp && f.Proto != udp {
		return none, api.ErrPortsForm
	}
	f.Port = int(b[at])*256 + int(b[at+1])
	f.Dest = int(b[at+2])*256 + int(b[at+3])
	return f, api.OK
}

func checkWrite(t *testing.T, p api.Ip, h ports.Head, data string, want api.Ip) {
	t.Helper()
	if got, e := ports.Write(p, h, data); e != api.OK || got != want {
		t.Errorf("P5.1: Write(%x, %v, %d bytes): %x %d, not %x", p, h, len(data), got, e, want)
	}
}

func checkNotWritten(t *testing.T, name string, p api.Ip, h ports.Head, data string, want api.Errno) {
	t.Helper()
	if got, e := ports.Write(p, h, data); e != want || got != (api.Ip{}) {
		t.Errorf("P5.1: %s: Write(%x, %v, %d bytes): %x %d, not %d", name, p, h, len(data), got, e, want)
	}
}

// checkRead holds Read against what is wanted, and Flow, which says the same of the packet.
func checkRead(t *testing.T, name string, p api.Ip, want ports.Head, errno api.Errno) {
	t.Helper()
	if h, e := ports.Read(p); e != errno || h != want {
		t.Errorf("P5.2: %s: Read of %x: %v %d, not %v %d", name, p, h, e, want, errno)
	}
	var flow api.Flow
	if errno == api.OK {
		flow = api.Flow{Proto: p.Proto, From: p.From, To: p.To, Port: want.From, Dest: want.To}
	}
	if f, e := ports.Flow(p); e != errno || f != flow {
		t.Errorf("P5.2: %s: Flow of %x: %x %d, not %x %d", name, p, f, e, flow, errno)
	}
}

func checkErr(t *testing.T, name string, p api.Ip, want api.Errno) {
	t.Helper()
	checkRead(t, name, p, ports.Head{}, want)
}

// checkPlain holds Read against what the chapter says of it.
func checkPlain(t *testing.T, name string, p api.Ip) {
	t.Helper()
	h, e := plainRead(p)
	checkRead(t, name, p, h, e)
}

func checkQuoted(t *testing.T, name string, p api.Ip, want api.Flow, errno api.Errno) {
	t.Helper()
	if f, e := ports.Quoted(p); e != errno || f != want {
		t.Errorf("P5.3: %s: Quoted of %x: %x %d, not %x %d", name, p, f, e, want, errno)
	}
}

func checkNotQuoted(t *testing.T, name string, p api.Ip, want api.Errno) {
	t.Helper()
	checkQuoted(t, name, p, api.Flow{}, want)
}

// between is a packet without a body.
func between(from, to api.Addr) api.Ip {
	return api.Ip{From: from, To: to, Ttl: 64}
}

// both are one with addresses of 4 bytes, and one with 16.
func both() []api.Ip {
	return []api.Ip{between(four1, four2), between(six1, six2)}
}

// heads are two that nothing is amiss of, and no byte of which is like another one.
func heads() []ports.Head {
	return []ports.Head{{Proto: tcp, From: 0x1234, To: 0x5678, Flags: 0x12}, {Proto: udp, From: 0x1234, To: 0x5678}}
}

// headLong is how many bytes there are ahead of the data.
func headLong(proto int) int {
	if proto == tcp {
		return 20
	}
	return 8
}

// someText leans to 0 and ff, where the sums carry and where they count as 0.
func someText(r *rand.Rand, many int) string {
	b := make([]byte, many)
	r.Read(b)
	lean := r.Intn(4)
	for k := range b {
		if lean == 0 && r.Intn(2) == 0 {
			b[k] = 0
		} else if lean == 1 && r.Intn(2) == 0 {
			b[k] = 0xff
		}
	}
	return string(b)
}

func someAddr(r *rand.Rand, many int) api.Addr {
	return api.Addr(someText(r, many))
}

// someNumber leans to the edges of 0 to most.
func someNumber(r *rand.Rand, most int) int {
	switch r.Intn(6) {
	case 0:
		return 0
	case 1:
		return most
	}
	return r.Intn(most + 1)
}

func someHead(r *rand.Rand) ports.Head {
	h := ports.Head{Proto: udp, From: someNumber(r, 65535), To: someNumber(r, 65535)}
	if r.Intn(2) == 0 {
		h.Proto, h.Flags = tcp, someNumber(r, 63)
	}
	return h
}

// somePacket is one without a body, whose Ttl may be any.
func somePacket(r *rand.Rand) api.Ip {
	many := 4 + 12*r.Intn(2)
	return api.Ip{From: someAddr(r, many), To: someAddr(r, many), Ttl: someNumber(r, 255)}
}

func TestWriteEveryByte(t *testing.T) {
	for _, x := range []struct {
		p    api.Ip
		h    ports.Head
		data string
		body string
	}{
		{between(four1, four2), ports.Head{Proto: 6, From: 0x1234, To: 0x5678, Flags: 0x12}, "data!",
			"\x12\x34\x56\x78\x00\x00\x00\x00\x00\x00\x00\x00\x50\x12\xff\xff\x7a\xed\x00\x00data!"},
		{between(six1, six2), ports.Head{Proto: 6, From: 0x1234, To: 0x5678, Flags: 0x12}, "data!",
			"\x12\x34\x56\x78\x00\x00\x00\x00\x00\x00\x00\x00\x50\x12\xff\xff\x1d\xa3\x00\x00data!"},
		{between(four1, four2), ports.Head{Proto: 17, From: 0x1234, To: 0x5678}, "data!",
			"\x12\x34\x56\x78\x00\x0d\xca\xf3\x64\x61\x74\x61\x21"},
		{between(six1, six2), ports.Head{Proto: 17, From: 0x1234, To: 0x5678}, "data!",
			"\x12\x34\x56\x78\x00\x0d\x6d\xa9\x64\x61\x74\x61\x21"},
		{between(four1, four2), ports.Head{Proto: 17}, "",
			"\x00\x00\x00\x00\x00\x08\x2d\x6d"},
	} {
		checkWrite(t, x.p, x.h, x.data, api.Ip{From: x.p.From, To: x.p.To, Ttl: 64, Proto: x.h.Proto, Body: x.body})
	}
}

func TestWriteOfMany(t *testing.T) {
	r := rand.New(rand.NewSource(1))
	for range 5000 {
		p, h, data := somePacket(r), someHead(r), someText(r, r.Intn(40))
		want := plainWrite(p, h, data)
		// What is no address and no Ttl of the given packet is not looked at.
		p.Proto, p.Body = r.Intn(2000)-1000, someText(r, r.Intn(40))
		checkWrite(t, p, h, data, want)
	}
	long := between(four1, four2)
	long.Proto, long.Body = 256, strings.Repeat("x", 5000)
	checkWrite(t, long, heads()[0], "", plainWrite(long, heads()[0], ""))
}

func TestWritePortsAtTheirEdges(t *testing.T) {
	for _, p := range both() {
		for _, h := range heads() {
			for _, n := range []int{0, 1, 255, 256, 65534, 65535} {
				from, to := h, h
				from.From, to.To = n, n
				checkWrite(t, p, from, "x", plainWrite(p, from, "x"))
				checkWrite(t, p, to, "x", plainWrite(p, to, "x"))
			}
			for _, n := range []int{-1, 65536, 65537, -65536, -65535, 1 << 16, 1 << 31, 1 << 32, math.MaxInt, math.MinInt} {
				from, to := h, h
				from.From, to.To = n, n
				checkNotWritten(t, "a From", p, from, "x", api.ErrArg)
				checkNotWritten(t, "a To", p, to, "x", api.ErrArg)
			}
		}
	}
}

func TestWriteFlagsAndAtAtTheirEdges(t *testing.T) {
	for _, p := range both() {
		for flags := -300; flags < 300; flags++ {
			ofTcp, ofUdp := heads()[0], heads()[1]
			ofTcp.Flags, ofUdp.Flags = flags, flags
			if flags >= 0 && flags <= 63 {
				checkWrite(t, p, ofTcp, "", plainWrite(p, ofTcp, ""))
			} else {
				checkNotWritten(t, "Flags of Tcp", p, ofTcp, "", api.ErrArg)
			}
			if flags == 0 {
				checkWrite(t, p, ofUdp, "", plainWrite(p, ofUdp, ""))
			} else {
				checkNotWritten(t, "Flags of Udp", p, ofUdp, "", api.ErrArg)
			}
		}
		for _, h := range heads() {
			for _, n := range []int{math.MinInt, -1 << 32, 1 << 32, math.MaxInt} {
				h.Flags = n
				checkNotWritten(t, "Flags", p, h, "", api.ErrArg)
			}
		}
		for _, h := range heads() {
			for _, at := range []int{math.MinInt, -20, -8, -1, 1, 8, 20, 256, 1 << 32, math.MaxInt} {
				h.At = at
				checkNotWritten(t, "an At", p, h, "", api.ErrArg)
			}
		}
	}
}

func TestWriteDataThatJustFit(t *testing.T) {
	for _, x := range []struct{ p, proto, most int }{{0, tcp, 1460}, {0, udp, 1472}, {1, tcp, 1440}, {1, udp, 1452}} {
		p, h := both()[x.p], heads()[0]
		if x.proto == udp {
			h = heads()[1]
		}
		for many := x.most - 2; many <= x.most; many++ {
			data := strings.Repeat("\xfe", many)
			checkWrite(t, p, h, data, plainWrite(p, h, data))
		}
		for _, many := range []int{x.most + 1, x.most + 2, x.most + 20, 65535, 65536, 65536 + 8, 1 << 20} {
			checkNotWritten(t, "data that don't fit", p, h, strings.Repeat("\xfe", many), api.ErrArg)
		}
	}
}

func TestWriteWhatEncodeRefuses(t *testing.T) {
	for _, h := range heads() {
		for _, p := range both() {
			for ttl := -3; ttl < 300; ttl++ {
				p.Ttl = ttl
				if ttl >= 0 && ttl <= 255 {
					checkWrite(t, p, h, "x", plainWrite(p, h, "x"))
				} else {
					checkNotWritten(t, "a Ttl", p, h, "x", api.ErrArg)
				}
			}
		}
		for i := range 40 {
			for j := range 40 {
				p := between(api.Addr(strings.Repeat("a", i)), api.Addr(strings.Repeat("b", j)))
				if i == j && (i == 4 || i == 16) {
					checkWrite(t, p, h, "x", plainWrite(p, h, "x"))
				} else {
					checkNotWritten(t, "addresses", p, h, "x", api.ErrArg)
				}
			}
		}
	}
}

func TestWriteOfOtherProtos(t *testing.T) {
	amiss := []ports.Head{{}, {From: -1}, {To: 65536}, {Flags: 64}, {At: 1}}
	protos := []int{math.MinInt, math.MaxInt, -tcp, 256 + tcp, 256 + udp, 1<<32 + tcp, 1<<32 + udp}
	for n := range 256 {
		protos = append(protos, n)
	}
	for _, proto := range protos {
		if proto == tcp || proto == udp {
			continue
		}
		for _, h := range amiss {
			h.Proto = proto
			for _, p := range append(both(), api.Ip{}, between(four1, six1), api.Ip{From: four1, To: four2, Ttl: 256, Proto: tcp}) {
				checkNotWritten(t, "another Proto", p, h, "", api.ErrPortsProto)
			}
			checkNotWritten(t, "another Proto", both()[0], h, strings.Repeat("x", 2000), api.ErrPortsProto)
		}
	}
	for _, h := range amiss[1:] {
		h.Proto = udp
		checkNotWritten(t, "all amiss", api.Ip{Ttl: -1}, h, strings.Repeat("x", 2000), api.ErrArg)
	}
}

// zeroing is two bytes of data that make a packet's sum 0.
func zeroing(p api.Ip, h ports.Head) string {
	told := plainWrite(p, h, "\x00\x00")
	return twoBytes(plainPut(told))
}

func TestSumOfZero(t *testing.T) {
	for _, p := range both() {
		for _, h := range heads() {
			told, e := ports.Write(p, h, zeroing(p, h))
			if e != api.OK || plainPut(told) != 0 {
				t.Fatalf("P5.1: Write of a sum of 0: %x %d", told, e)
			}
			want := h
			want.At = headLong(h.Proto)
			at := sumPlace(h.Proto)
			if sum := told.Body[at : at+2]; sum != "\xff\xff" && h.Proto == udp || sum != "\x00\x00" && h.Proto == tcp {
				t.Errorf("P5.1: a sum of 0 of Proto %d is %x", h.Proto, sum)
			}
			checkRead(t, "a sum of 0", withSum(told, 0), want, api.OK)
			checkRead(t, "a sum of ffff", withSum(told, 0xffff), want, api.OK)
		}
	}
}

func TestReadWithoutASum(t *testing.T) {
	ofTcp, ofUdp := heads()[0], heads()[1]
	want := ofUdp
	want.At = 8
	for _, data := range []string{"", "x", "some data"} {
		checkRead(t, "a Udp without a sum", withSum(plainWrite(both()[0], ofUdp, data), 0), want, api.OK)
		checkErr(t, "a Udp of 16 without a sum", withSum(plainWrite(both()[1], ofUdp, data), 0), api.ErrPortsSum)
		for _, sum := range []int{1, 0x100, 0xff, 0xff00, 0xffff} {
			checkErr(t, "a Udp with a bad sum", withSum(plainWrite(both()[0], ofUdp, data), sum), api.ErrPortsSum)
		}
		for _, p := range both() {
			checkErr(t, "a Tcp without a sum", withSum(plainWrite(p, ofTcp, data), 0), api.ErrPortsSum)
		}
		// Only where both have 4 bytes.
		for _, p := range []api.Ip{between(four1, six1), between(six1, four1), between(four1, ""), between("", four1), between("", "")} {
			told := plainWrite(p, ofUdp, data)
			checkErr(t, "a Udp without a sum, of other addresses", withSum(told, 0), api.ErrPortsSum)
		}
	}
	// A length that is wrong is told ahead of it.
	p := withSum(plainWrite(both()[0], ofUdp, "x"), 0)
	p.Body += "y"
	checkErr(t, "a Udp without a sum", p, api.ErrPortsForm)
}

// tcpBody is a body that says that its data begin at a place, without a sum.
func tcpBody(at byte, many int) string {
	b := []byte(strings.Repeat("\xa7", max(many, 20)))
	copy(b, "\x12\x34\x56\x78")
	b[12] = at
	return string(b[:many])
}

func TestReadTcpOfEachLengthAndAt(t *testing.T) {
	for _, p := range both() {
		p.Proto = tcp
		for many := range 70 {
			for at := range 256 {
				p.Body = tcpBody(byte(at), many)
				q := summed(p)
				switch start := at / 16 * 4; {
				case many < 20:
					checkErr(t, "a short Tcp", q, api.ErrPortsShort)
				case start < 20 || start > many:
					checkErr(t, "a Tcp whose data begin outside it", q, api.ErrPortsForm)
					checkErr(t, "a Tcp whose data begin outside it, and a bad sum", withSum(q, plainPut(q)^1), api.ErrPortsForm)
				default:
					checkRead(t, "a Tcp", q, ports.Head{Proto: tcp, From: 0x1234, To: 0x5678, Flags: 0x27, At: start}, api.OK)
					checkErr(t, "a Tcp with a bad sum", withSum(q, plainPut(q)^1), api.ErrPortsSum)
				}
			}
		}
	}
}

func TestReadTcpOfEachFlag(t *testing.T) {
	for _, p := range both() {
		for flags := range 256 {
			b := []byte(plainWrite(p, heads()[0], "x").Body)
			b[13] = byte(flags)
			q := p
			q.Proto, q.Body = tcp, string(b)
			checkRead(t, "a Tcp", summed(q), ports.Head{Proto: tcp, From: 0x1234, To: 0x5678, Flags: flags % 64, At: 20}, api.OK)
		}
	}
}

func TestReadUdpOfEachLength(t *testing.T) {
	for _, p := range both() {
		p.Proto = udp
		for many := range 40 {
			for said := range 300 {
				p.Body = ("\x12\x34\x56\x78" + twoBytes(said) + "\x00\x00" + strings.Repeat("z", 40))[:many]
				q := summed(p)
				switch {
				case many < 8:
					checkErr(t, "a short Udp", q, api.ErrPortsShort)
				case said != many:
					checkErr(t, "a Udp with another length", q, api.ErrPortsForm)
					checkErr(t, "a Udp with another length, and a bad sum", withSum(q, plainPut(q)^1), api.ErrPortsForm)
				default:
					checkRead(t, "a Udp", q, ports.Head{Proto: udp, From: 0x1234, To: 0x5678, At: 8}, api.OK)
					checkErr(t, "a Udp with a bad sum", withSum(q, plainPut(q)^1), api.ErrPortsSum)
				}
			}
		}
	}
}

// A packet that is read needn't be one that could be sent.
func TestReadLongBodies(t *testing.T) {
	for _, p := range both() {
		for _, many := range []int{1481, 65534, 65535, 65536, 65537, 65536 + 8, 65536 + 20, 70000, 3*65536 + 44} {
			p.Proto = tcp
			p.Body = tcpBody(0x6f, many)
			checkRead(t, "a long Tcp", summed(p), ports.Head{Proto: tcp, From: 0x1234, To: 0x5678, Flags: 0x27, At: 24}, api.OK)
			p.Proto = udp
			p.Body = "\x12\x34\x56\x78" + twoBytes(many%65536) + strings.Repeat("z", many-6)
			if many < 65536 {
				checkRead(t, "a long Udp", summed(p), ports.Head{Proto: udp, From: 0x1234, To: 0x5678, At: 8}, api.OK)
			} else {
				checkErr(t, "a Udp longer than it can say", summed(p), api.ErrPortsForm)
			}
		}
	}
}

func TestReadOfOtherProtos(t *testing.T) {
	protos := []int{math.MinInt, math.MaxInt, -1, 256 + tcp, 256 + udp, 1<<32 + tcp, 1<<32 + udp}
	for n := range 256 {
		protos = append(protos, n)
	}
	for _, p := range both() {
		for _, h := range heads() {
			told := plainWrite(p, h, "x")
			for _, proto := range protos {
				if proto == tcp || proto == udp {
					continue
				}
				for _, body := range []string{"", told.Body[:7], told.Body, told.Body + "x"} {
					checkErr(t, "another Proto", api.Ip{From: p.From, To: p.To, Ttl: 64, Proto: proto, Body: body}, api.ErrPortsProto)
				}
				checkErr(t, "another Proto of no addresses", api.Ip{Proto: proto, Body: told.Body}, api.ErrPortsProto)
			}
		}
	}
}

func TestReadOfEachBitAndLength(t *testing.T) {
	for _, p := range both() {
		for _, h := range heads() {
			told := plainWrite(p, h, "some data")
			for at := range len(told.Body) {
				for bit := range 8 {
					b := []byte(told.Body)
					b[at] ^= 1 << bit
					q := told
					q.Body = string(b)
					if _, e := ports.Read(q); e != api.ErrPortsSum && e != api.ErrPortsForm {
						t.Errorf("P5.2: Read of %x, byte %d changed: %d", q, at, e)
					}
					checkPlain(t, "a bit changed", q)
				}
				q := told
				q.Body = told.Body[:at]
				checkPlain(t, "cut off", q)
			}
			for at := range len(told.From) {
				for bit := range 8 {
					b := []byte(told.From)
					b[at] ^= 1 << bit
					q := told
					q.From = api.Addr(b)
					checkErr(t, "another From", q, api.ErrPortsSum)
					b = []byte(told.To)
					b[at] ^= 1 << bit
					q = told
					q.To = api.Addr(b)
					checkErr(t, "another To", q, api.ErrPortsSum)
				}
			}
			for _, ttl := range []int{0, 1, 255, -1, 256, math.MaxInt} {
				q := told
				q.Ttl = ttl
				want := h
				want.At = headLong(h.Proto)
				checkRead(t, "another Ttl", q, want, api.OK)
			}
		}
	}
}

func TestReadOfAddressesOfEachLength(t *testing.T) {
	for i := range 40 {
		for j := range 40 {
			p := between(api.Addr(strings.Repeat("a", i)), api.Addr(strings.Repeat("b", j)))
			for _, h := range heads() {
				told := plainWrite(p, h, "x")
				want := h
				want.At = headLong(h.Proto)
				if i == j && (i == 4 || i == 16) {
					checkRead(t, "addresses", told, want, api.OK)
					continue
				}
				// Of other addresses Pseudo is none: a body can be good, but is of no flow.
				checkErr(t, "addresses that are none, or of two kinds", told, api.ErrPortsForm)
				checkErr(t, "addresses that are none, or of two kinds, and a bad sum", withSum(told, plainPut(told)^1), api.ErrPortsSum)
				told.Body = told.Body[:7]
				checkErr(t, "addresses that are none, and a short body", told, api.ErrPortsShort)
			}
		}
	}
}

func TestReadOfMany(t *testing.T) {
	r := rand.New(rand.NewSource(2))
	long := []int{0, 4, 4, 4, 4, 5, 16, 16, 16, 16, 20}
	for range 30000 {
		p := api.Ip{From: someAddr(r, long[r.Intn(len(long))]), Ttl: r.Intn(256), Proto: tcp}
		p.To = someAddr(r, len(p.From))
		if r.Intn(8) == 0 {
			p.To = someAddr(r, long[r.Intn(len(long))])
		}
		b := []byte(someText(r, r.Intn(64)))
		if len(b) > 12 {
			b[12] = byte(r.Intn(3)+4)<<4 | b[12]&15
		}
		if r.Intn(2) == 0 {
			p.Proto = udp
			if len(b) > 5 && r.Intn(4) > 0 {
				copy(b[4:], twoBytes(len(b)))
			}
		}
		p.Body = string(b)
		if r.Intn(4) > 0 {
			p = summed(p)
		}
		checkPlain(t, "bytes", p)
	}
}

func TestTurn(t *testing.T) {
	f := api.Flow{Proto: tcp, From: four1, To: six1, Port: 1, Dest: -2}
	if turned := ports.Turn(f); turned != (api.Flow{Proto: tcp, From: six1, To: four1, Port: -2, Dest: 1}) {
		t.Errorf("P5.2: Turn(%x) is %x", f, turned)
	}
	if turned := ports.Turn(api.Flow{}); turned != (api.Flow{}) {
		t.Errorf("P5.2: Turn of none is %x", turned)
	}
	r := rand.New(rand.NewSource(3))
	for range 1000 {
		f := api.Flow{Proto: int(r.Uint64()), From: someAddr(r, r.Intn(20)), To: someAddr(r, r.Intn(20)), Port: int(r.Uint64()), Dest: int(r.Uint64())}
		if turned := ports.Turn(f); turned != (api.Flow{Proto: f.Proto, From: f.To, To: f.From, Port: f.Dest, Dest: f.Port}) {
			t.Errorf("P5.2: Turn(%x) is %x", f, turned)
		}
		if again := ports.Turn(ports.Turn(f)); again != f {
			t.Errorf("P5.4: Turn(Turn(%x)) is %x", f, again)
		}
	}
}

func TestReadIsWhatWasWritten(t *testing.T) {
	r := rand.New(rand.NewSource(4))
	for range 5000 {
		p, h, data := somePacket(r), someHead(r), someText(r, r.Intn(50))
		told, e := ports.Write(p, h, data)
		if e != api.OK {
			t.Fatalf("P5.4: Write(%x, %v): %d", p, h, e)
		}
		want := h
		want.At = headLong(h.Proto)
		if got, e := ports.Read(told); e != api.OK || got != want || told.Body[got.At:] != data {
			t.Errorf("P5.4: Read of %x: %v %d, not %v", told, got, e, want)
		}
		flow, e := ports.Flow(told)
		if e != api.OK || flow != (api.Flow{Proto: h.Proto, From: p.From, To: p.To, Port: h.From, Dest: h.To}) {
			t.Errorf("P5.4: Flow of %x: %x %d", told, flow, e)
		}
		back := ports.Head{Proto: h.Proto, From: h.To, To: h.From}
		answer, e1 := ports.Write(api.Ip{From: p.To, To: p.From, Ttl: 7}, back, "an answer")
		if f, e := ports.Flow(answer); e1 != api.OK || e != api.OK || f != ports.Turn(flow) || ports.Turn(f) != flow {
			t.Errorf("P5.4: Flow of what goes back, %x: %x %d %d, not the Turn of %x", answer, f, e1, e, flow)
		}
	}
}

// quote is an error about another packet, the first bytes of which are in it.
func quote(p, about api.Ip, first byte, many int) api.Ip {
	b, _ := ipv.Encode(about)
	p.Body = string([]byte{first, 1, 0, 0, 9, 8, 7, 6}) + string(b)[:many]
	return summed(p)
}

// errors are an error of either kind, whose quoted packet is one that was sent with the head.
func errors(h ports.Head) [2]api.Ip {
	four, six := between(four2, four1), between(six2, six1)
	four.Proto, six.Proto = icmp, icmp6
	return [2]api.Ip{
		quote(four, plainWrite(both()[0], h, "some data"), 3, 28),
		quote(six, plainWrite(both()[1], h, "some data"), 1, 48),
	}
}

// about is the flow of the packets that are quoted in errors.
func about(kind int, h ports.Head) api.Flow {
	p := both()[kind]
	return api.Flow{Proto: h.Proto, From: p.From, To: p.To, Port: h.From, Dest: h.To}
}

func TestQuotedOfBothKinds(t *testing.T) {
	checkQuoted(t, "an error, byte by byte", api.Ip{From: "\x0a\x00\x00\x09", To: four1, Proto: 1, Body: "\x0b\x00\x89\xdb\x00\x00\x00\x00" +
		"\x45\x00\x00\x28\x00\x00\x40\x00\x01\x06\x00\x00\x0a\x00\x00\x01\xc0\xa8\x07\xc8\x12\x34\x00\x50"},
		api.Flow{Proto: 6, From: four1, To: four2, Port: 0x1234, Dest: 80}, api.OK)
	for kind := range 2 {
		for _, h := range heads() {
			e := errors(h)[kind]
			checkQuoted(t, "an error", e, about(kind, h), api.OK)
			for _, ttl := range []int{0, 1, 255, -1, 256} {
				e.Ttl = ttl
				checkQuoted(t, "an error of another Ttl", e, about(kind, h), api.OK)
			}
		}
		for _, n := range []int{0, 255, 256, 65535} {
			h := ports.Head{Proto: udp, From: n, To: 65535 - n}
			checkQuoted(t, "an error", errors(h)[kind], about(kind, h), api.OK)
		}
	}
}

func TestQuotedOfEachFirstByte(t *testing.T) {
	for kind, e := range errors(heads()[0]) {
		for first := range 256 {
			e.Body = string([]byte{byte(first)}) + e.Body[1:]
			q := summed(e)
			bad := withSum(q, plainPut(q)^0x100)
			if kind == 0 && (first == 3 || first == 11) || kind == 1 && first >= 1 && first <= 3 {
				checkQuoted(t, "an error", q, about(kind, heads()[0]), api.OK)
				checkNotQuoted(t, "an error with a bad sum", bad, api.ErrPortsSum)
			} else {
				checkNotQuoted(t, "no error", q, api.ErrPortsProto)
				checkNotQuoted(t, "no error, and a bad sum", bad, api.ErrPortsProto)
			}
		}
		// The byte behind it can be any.
		for second := range 256 {
			q := errors(heads()[0])[kind]
			q.Body = q.Body[:1] + string([]byte{byte(second)}) + q.Body[2:]
			checkQuoted(t, "an error", summed(q), about(kind, heads()[0]), api.OK)
		}
	}
}

func TestQuotedOfOtherProtosAndAddresses(t *testing.T) {
	for kind, e := range errors(heads()[1]) {
		protos := []int{math.MinInt, math.MaxInt, -1, 256 + icmp, 256 + icmp6, 1<<32 + icmp, 1<<32 + icmp6}
		for n := range 256 {
			protos = append(protos, n)
		}
		for _, proto := range protos {
			if proto == e.Proto {
				continue
			}
			q := e
			q.Proto = proto
			checkNotQuoted(t, "another Proto", q, api.ErrPortsProto)
			q.Body = ""
			checkNotQuoted(t, "another Proto, of nothing", q, api.ErrPortsProto)
		}
		for i := range 40 {
			for j := range 40 {
				q := e
				q.From, q.To = api.Addr(strings.Repeat("a", i)), api.Addr(strings.Repeat("b", j))
				q = summed(q)
				if i == j && i == len(e.From) {
					checkQuoted(t, "other addresses", q, about(kind, heads()[1]), api.OK)
				} else {
					checkNotQuoted(t, "addresses of another kind", q, api.ErrPortsProto)
				}
			}
		}
	}
	// Each Proto with the other one's addresses and first bytes.
	four, six := errors(heads()[1])[0], errors(heads()[1])[1]
	four.From, four.To = six1, six2
	six.From, six.To = four1, four2
	checkNotQuoted(t, "Icmp of 16", summed(four), api.ErrPortsProto)
	checkNotQuoted(t, "Icmp6 of 4", summed(six), api.ErrPortsProto)
}

func TestQuotedOfEachLength(t *testing.T) {
	for kind, e := range errors(heads()[0]) {
		least := 8 + []int{24, 44}[kind]
		whole := e.Body + strings.Repeat("z", 100)
		for many := range len(whole) + 1 {
			e.Body = whole[:many]
			q := summed(e)
			switch {
			case many == 0:
				checkNotQuoted(t, "an empty Body", q, api.ErrPortsProto)
			case many < 4:
				checkNotQuoted(t, "a Body without a sum", q, api.ErrPortsSum)
			case many < least:
				checkNotQuoted(t, "an error that is short", q, api.ErrPortsForm)
				checkNotQuoted(t, "an error that is short, and a bad sum", withSum(q, plainPut(q)^1), api.ErrPortsSum)
			default:
				checkQuoted(t, "an error", q, about(kind, heads()[0]), api.OK)
				checkNotQuoted(t, "an error, and a bad sum", withSum(q, plainPut(q)^1), api.ErrPortsSum)
			}
		}
	}
	// A longer Body than a packet has, whose length takes more than two bytes.
	for kind, e := range errors(heads()[0]) {
		e.Body += strings.Repeat("z", 3*65536)
		checkQuoted(t, "a long error", summed(e), about(kind, heads()[0]), api.OK)
	}
}

func TestQuotedOfEachBeginning(t *testing.T) {
	for kind, e := range errors(heads()[0]) {
		for first := range 256 {
			b := []byte(e.Body)
			b[8] = byte(first)
			q := e
			q.Body = string(b)
			if kind == 0 && first == 0x45 || kind == 1 && first/16 == 6 {
				checkQuoted(t, "a quoted first byte", summed(q), about(kind, heads()[0]), api.OK)
			} else {
				checkNotQuoted(t, "another quoted first byte", summed(q), api.ErrPortsForm)
			}
		}
		for proto := range 256 {
			b := []byte(e.Body)
			b[8+[]int{9, 6}[kind]] = byte(proto)
			q := e
			q.Body = string(b)
			want := about(kind, heads()[0])
			want.Proto = proto
			if proto == tcp || proto == udp {
				checkQuoted(t, "a quoted Proto", summed(q), want, api.OK)
			} else {
				checkNotQuoted(t, "another quoted Proto", summed(q), api.ErrPortsForm)
				checkNotQuoted(t, "another quoted Proto, and a bad sum", withSum(q, plainPut(q)^2), api.ErrPortsSum)
			}
		}
	}
}

// Of a quoted packet no more is asked than the chapter says: its lengths and sums can be any.
func TestQuotedOfEachByte(t *testing.T) {
	for _, e := range errors(heads()[1]) {
		for at := range len(e.Body) {
			for _, n := range []byte{0, 1, 0x45, 0x60, 0x6f, 0x80, 0xff} {
				b := []byte(e.Body)
				b[at] = n
				q := e
				q.Body = string(b)
				f, errno := plainQuoted(q)
				checkQuoted(t, "a byte changed", q, f, errno)
				f, errno = plainQuoted(summed(q))
				checkQuoted(t, "a byte changed, and the sum", summed(q), f, errno)
			}
		}
		for at := range len(e.From) {
			b := []byte(e.From)
			b[at] ^= 4
			q := e
			q.From = api.Addr(b)
			f, errno := plainQuoted(q)
			checkQuoted(t, "another From", q, f, errno)
			if (errno == api.ErrPortsSum) != (e.Proto == icmp6) {
				t.Errorf("P5.3: another From, of Proto %d: %d", e.Proto, errno)
			}
		}
	}
}

func TestQuotedOfMany(t *testing.T) {
	r := rand.New(rand.NewSource(5))
	for range 30000 {
		kind := r.Intn(2)
		p := api.Ip{Proto: []int{icmp, icmp6}[kind], From: someAddr(r, []int{4, 16}[kind]), To: someAddr(r, []int{4, 16}[kind])}
		b := []byte(someText(r, r.Intn(70)))
		if len(b) > 0 {
			b[0] = []byte{0, 1, 2, 3, 4, 11}[r.Intn(6)]
		}
		if len(b) > 8+9 && r.Intn(8) > 0 {
			b[8] = []byte{0x45, 0x60 | b[8]&15}[kind]
			b[8+[]int{9, 6}[kind]] = []byte{tcp, udp}[r.Intn(2)]
		}
		p.Body = string(b)
		if r.Intn(8) > 0 {
			p = summed(p)
		}
		f, errno := plainQuoted(p)
		checkQuoted(t, "bytes", p, f, errno)
	}
}

func TestQuotedIsTheFlowThatWasWritten(t *testing.T) {
	r := rand.New(rand.NewSource(6))
	for range 2000 {
		told, e1 := ports.Write(somePacket(r), someHead(r), someText(r, r.Intn(20)))
		flow, e2 := ports.Flow(told)
		if e1 != api.OK || e2 != api.OK {
			t.Fatalf("P5.4: %x: %d %d", told, e1, e2)
		}
		e := api.Ip{From: someAddr(r, len(told.From)), To: told.From, Proto: icmp, Ttl: 9}
		first, least := byte(11), 24
		if len(told.From) == 16 {
			e.Proto, first, least = icmp6, 3, 44
		}
		checkQuoted(t, "an error about a packet that was written", quote(e, told, first, least+r.Intn(5)), flow, api.OK)
	}
}
