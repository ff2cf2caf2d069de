package advert_test

import (
	"math"
	"math/rand"
	"reflect"
	"slices"
	"strings"
	"testing"

	"outrider/advert"
	"outrider/api"
)

const (
	four1 = api.Addr("\x0a\x00\x00\x01")
	four2 = api.Addr("\xc0\xa8\x07\xc8")
	six1  = api.Addr("\xfe\x80\x00\x00\x00\x00\x00\x00\x00\x00\x00\x00\x00\x01\x02\x03")
	six2  = api.Addr("0123456789abcdef")
)

const (
	group4 = api.Addr("\xe0\x00\x00\x12")
	group6 = api.Addr("\xff\x02\x00\x00\x00\x00\x00\x00\x00\x00\x00\x00\x00\x00\x00\x12")
)

// wrongLongs are lengths that no address has.
var wrongLongs = []int{0, 1, 2, 3, 5, 6, 7, 8, 12, 15, 17, 18, 20, 24, 31, 32, 40, 64, 260, 272}

// plainSum is the sum of chapter 1.
func plainSum(b string) int {
	if len(b)%2 == 1 {
		b += "\x00"
	}
	n := 0
	for i := 0; i < len(b); i += 2 {
		n += int(b[i])*256 + int(b[i+1])
		if n > 65535 {
			n -= 65535
		}
	}
	return n
}

// twoBytes is a number, the higher byte first.
func twoBytes(n int) string {
	return string([]byte{byte(n / 256), byte(n % 256)})
}

// plainPseudo is what chapter 3 says of Pseudo, of Proto 112.
func plainPseudo(from, to api.Addr, long int) string {
	switch {
	case len(from) == 4 && len(to) == 4:
		return string(from) + string(to) + "\x00\x70" + twoBytes(long%65536)
	case len(from) == 16 && len(to) == 16:
		return string(from) + string(to) + twoBytes(long/65536) + twoBytes(long%65536) + "\x00\x00\x00\x70"
	}
	return ""
}

// plainPut is the sum that a packet is to have, whatever one it has.
func plainPut(p api.Ip) int {
	body := p.Body[:6] + "\x00\x00" + p.Body[8:]
	return 65535 - plainSum(plainPseudo(p.From, p.To, len(body))+body)
}

// withSum is the packet with another sum.
func withSum(p api.Ip, sum int) api.Ip {
	p.Body = p.Body[:6] + twoBytes(sum) + p.Body[8:]
	return p
}

// summed is the packet with the sum that is right; of a body that has no place for it, as it is.
func summed(p api.Ip) api.Ip {
	if len(p.Body) < 8 {
		return p
	}
	return withSum(p, plainPut(p))
}

// badSum is the packet with a sum that is not right.
func badSum(p api.Ip) api.Ip {
	if len(p.Body) < 8 {
		return p
	}
	return withSum(p, plainPut(p)^1)
}

// plainEncode is what the chapter says of Encode, in its order.
func plainEncode(a advert.Advert, from api.Addr) (api.Ip, api.Errno) {
	if len(from) != 4 && len(from) != 16 {
		return api.Ip{}, api.ErrArg
	}
	if a.Id < 1 || a.Id > 255 || a.Priority < 0 || a.Priority > 255 || a.Every < 1 || a.Every > 4095 {
		return api.Ip{}, api.ErrArg
	}
	if len(a.Addrs) < 1 || len(a.Addrs) > 8 {
		return api.Ip{}, api.ErrArg
	}
	body := "\x31" + string([]byte{byte(a.Id), byte(a.Priority), byte(len(a.Addrs))}) + twoBytes(a.Every) + "\x00\x00"
	for _, addr := range a.Addrs {
		if len(addr) != len(from) {
			return api.Ip{}, api.ErrArg
		}
		body += string(addr)
	}
	p := api.Ip{From: from, To: group4, Proto: 112, Ttl: 255, Body: body}
	if len(from) == 16 {
		p.To = group6
	}
	return summed(p), api.OK
}

// plainDecode is what the chapter says of Decode, in its order.
func plainDecode(p api.Ip) (advert.Advert, api.Errno) {
	none := advert.Advert{}
	if p.Ttl != 255 || p.Proto != 112 {
		return none, api.ErrAdvertHops
	}
	if len(p.From) != len(p.To) || len(p.From) != 4 && len(p.From) != 16 || len(p.Body) < 8 {
		return none, api.ErrAdvertShort
	}
	if p.Body[0]/16 != 3 {
		return none, api.ErrAdvertVersion
	}
	if p.Body[0]%16 != 1 {
		return none, api.ErrAdvertType
	}
	many := int(p.Body[3])
	if many == 0 || many > 8 || len(p.Body) != 8+many*len(p.From) {
		return none, api.ErrAdvertCount
	}
	if plainSum(plainPseudo(p.From, p.To, len(p.Body))+p.Body) != 65535 {
		return none, api.ErrAdvertSum
	}
	if p.Body[1] == 0 || p.Body[4]/16 != 0 || p.Body[4] == 0 && p.Body[5] == 0 {
		return none, api.ErrAdvertId
	}
	a := advert.Advert{Id: int(p.Body[1]), Priority: int(p.Body[2]), Every: int(p.Body[4])*256 + int(p.Body[5])}
	for rest := p.Body[8:]; rest != ""; rest = rest[len(p.From):] {
		a.Addrs = append(a.Addrs, api.Addr(rest[:len(p.From)]))
	}
	return a, api.OK
}

// same tells whether two say the same; a list that is empty is as good as none.
func same(a, b advert.Advert) bool {
	return a.Id == b.Id && a.Priority == b.Priority && a.Every == b.Every && slices.Equal(a.Addrs, b.Addrs)
}

// checkEncoded holds Encode against what is wanted, and looks that what it was given stays.
func checkEncoded(t *testing.T, name string, a advert.Advert, from api.Addr, want api.Ip, errno api.Errno) {
	t.Helper()
	was := slices.Clone(a.Addrs)
	if got, e := advert.Encode(a, from); e != errno || got != want {
		t.Errorf("P6.1: %s: Encode(%x, %x): %x %d, not %x %d", name, a, from, got, e, want, errno)
	}
	if !slices.Equal(was, a.Addrs) {
		t.Errorf("P6.1: %s: Encode(%x, %x) changed Addrs to %x", name, was, from, a.Addrs)
	}
}

func checkNotEncoded(t *testing.T, name string, a advert.Advert, from api.Addr) {
	t.Helper()
	checkEncoded(t, name, a, from, api.Ip{}, api.ErrArg)
}

// checkPlainEncoded holds Encode against what the chapter says of it, and Decode of what it tells.
func checkPlainEncoded(t *testing.T, name string, a advert.Advert, from api.Addr) {
	t.Helper()
	p, e := plainEncode(a, from)
	checkEncoded(t, name, a, from, p, e)
	if e != api.OK {
		return
	}
	p, _ = advert.Encode(a, from)
	if b, e := advert.Decode(p); e != api.OK || !same(a, b) {
		t.Errorf("P6.3: %s: Decode(Encode(%x, %x)): %x %d", name, a, from, b, e)
	}
}

func checkTaken(t *testing.T, name string, a advert.Advert, from api.Addr) {
	t.Helper()
	if _, e := plainEncode(a, from); e != api.OK {
		t.Fatalf("P6.1: %s: %x from %x should be one that is taken", name, a, from)
	}
	checkPlainEncoded(t, name, a, from)
}

func checkDecoded(t *testing.T, name string, p api.Ip, want advert.Advert, errno api.Errno) {
	t.Helper()
	got, e := advert.Decode(p)
	if e != errno || !same(got, want) {
		t.Errorf("P6.2: %s: Decode(%x): %x %d, not %x %d", name, p, got, e, want, errno)
	}
}

func checkRefused(t *testing.T, name string, p api.Ip, errno api.Errno) {
	t.Helper()
	checkDecoded(t, name, p, advert.Advert{}, errno)
}

// checkPlainDecoded holds Decode against what the chapter says of it.
func checkPlainDecoded(t *testing.T, name string, p api.Ip) {
	t.Helper()
	a, e := plainDecode(p)
	checkDecoded(t, name, p, a, e)
}

// one is an advertisement that nothing is amiss of.
func one(addrs ...api.Addr) advert.Advert {
	return advert.Advert{Id: 7, Priority: 100, Every: 0x123, Addrs: addrs}
}

// packet is a packet with a body, and the sum that is right.
func packet(from api.Addr, body string) api.Ip {
	to := group4
	if len(from) == 16 {
		to = group6
	}
	return summed(api.Ip{From: from, To: to, Proto: 112, Ttl: 255, Body: body})
}

// both are two packets that nothing is amiss of, with addresses of 4 bytes and of 16.
func both() []api.Ip {
	return []api.Ip{
		packet(four1, "\x31\x07\x64\x02\x01\x23\x00\x00"+string(four2+four1)),
		packet(six1, "\x31\x07\x64\x02\x01\x23\x00\x00"+string(six2+six1)),
	}
}

// addrsOf is the addresses of one of both.
func addrsOf(p api.Ip) []api.Addr {
	if p.From == four1 {
		return []api.Addr{four2, four1}
	}
	return []api.Addr{six2, six1}
}

// put is the packet with another byte in its body, and the sum that is right then.
func put(p api.Ip, at int, to byte) api.Ip {
	b := []byte(p.Body)
	b[at] = to
	p.Body = string(b)
	return summed(p)
}

// someText leans to 0 and ff, where the sums carry and where they count as 0.
func someText(r *rand.Rand, many int) string {
	b := make([]byte, many)
	r.Read(b)
	lean := r.Intn(4)
	for k := range b {
		if lean == 0 && r.Intn(2) == 0 {
			b[k] = 0
		} else if lean == 1 && r.Intn(2) == 0 {
			b[k] = 0xff
		}
	}
	return string(b)
}

// someNumber leans to the edges of least to most.
func someNumber(r *rand.Rand, least, most int) int {
	switch r.Intn(6) {
	case 0:
		return least
	case 1:
		return most
	}
	return least + r.Intn(most-least+1)
}

func someAdvert(r *rand.Rand) (advert.Advert, api.Addr) {
	many := 4 + 12*r.Intn(2)
	a := advert.Advert{Id: someNumber(r, 1, 255), Priority: someNumber(r, 0, 255), Every: someNumber(r, 1, 4095)}
	for range someNumber(r, 1, 8) {
		a.Addrs = append(a.Addrs, api.Addr(someText(r, many)))
	}
	return a, api.Addr(someText(r, many))
}

func TestGroup(t *testing.T) {
	if g := advert.Group(false); g != group4 {
		t.Errorf("P6.1: Group of 4 bytes: %x", g)
	}
	if g := advert.Group(true); g != group6 {
		t.Errorf("P6.1: Group of 16 bytes: %x", g)
	}
}

func TestEveryByte(t *testing.T) {
	for _, x := range []struct {
		a    advert.Advert
		from api.Addr
		to   api.Addr
		body string
	}{
		{advert.Advert{Id: 7, Priority: 100, Every: 100, Addrs: []api.Addr{"\x0a\x00\x00\x64"}}, four1, "\xe0\x00\x00\x12",
			"\x31\x07\x64\x01\x00\x64\x75\x9f\x0a\x00\x00\x64"},
		{advert.Advert{Id: 0xab, Priority: 0xcd, Every: 0x9ef, Addrs: []api.Addr{four2, "\x0a\x00\x00\x64", "\xff\xff\xff\xff"}}, four2, "\xe0\x00\x00\x12",
			"\x31\xab\xcd\x03\x09\xef\x7b\x85\xc0\xa8\x07\xc8\x0a\x00\x00\x64\xff\xff\xff\xff"},
		{advert.Advert{Id: 7, Priority: 100, Every: 100, Addrs: []api.Addr{six2}}, six1, "\xff\x02\x00\x00\x00\x00\x00\x00\x00\x00\x00\x00\x00\x00\x00\x12",
			"\x31\x07\x64\x01\x00\x64\x3b\x3a0123456789abcdef"},
		{advert.Advert{Id: 0xab, Priority: 0xcd, Every: 0x9ef, Addrs: []api.Addr{six1, six2}}, six2, "\xff\x02\x00\x00\x00\x00\x00\x00\x00\x00\x00\x00\x00\x00\x00\x12",
			"\x31\xab\xcd\x02\x09\xef\x98\xc2" + string(six1) + "0123456789abcdef"},
	} {
		p := api.Ip{From: x.from, To: x.to, Proto: 112, Ttl: 255, Body: x.body}
		checkEncoded(t, "every byte", x.a, x.from, p, api.OK)
		checkDecoded(t, "every byte", p, x.a, api.OK)
	}
}

func TestEncodeOfNumbersAtTheirEdges(t *testing.T) {
	far := []int{math.MinInt, math.MaxInt, -1 << 32, 1 << 32, 1<<32 + 1, -1 << 16, 1 << 16, 1<<16 + 1, -256, -255}
	for _, from := range []api.Addr{four1, six1} {
		for n := -300; n < 5000; n++ {
			id, priority, every := one(from), one(from), one(from)
			id.Id, priority.Priority, every.Every = n, n, n
			checkPlainEncoded(t, "an Id", id, from)
			checkPlainEncoded(t, "a Priority", priority, from)
			checkPlainEncoded(t, "an Every", every, from)
		}
		for _, n := range append(far, 0, 256) {
			a := one(from)
			a.Id = n
			checkNotEncoded(t, "an Id", a, from)
		}
		for _, n := range append(far, -1, 256) {
			a := one(from)
			a.Priority = n
			checkNotEncoded(t, "a Priority", a, from)
		}
		for _, n := range append(far, 0, 4096) {
			a := one(from)
			a.Every = n
			checkNotEncoded(t, "an Every", a, from)
		}
		checkTaken(t, "all least", advert.Advert{Id: 1, Priority: 0, Every: 1, Addrs: []api.Addr{from}}, from)
		checkTaken(t, "all greatest", advert.Advert{Id: 255, Priority: 255, Every: 4095, Addrs: []api.Addr{from}}, from)
	}
}

func TestEncodeOfHowManyAddrs(t *testing.T) {
	for _, from := range []api.Addr{four1, six1} {
		for many := 1; many <= api.MaxAddrs; many++ {
			var addrs []api.Addr
			for k := range many {
				addrs = append(addrs, from[1:]+api.Addr([]byte{byte(k)}))
			}
			checkTaken(t, "addresses", one(addrs...), from)
		}
		checkNotEncoded(t, "no addresses", one(), from)
		checkNotEncoded(t, "no addresses", one([]api.Addr{}...), from)
		for _, many := range []int{api.MaxAddrs + 1, api.MaxAddrs + 2, 16, 255, 256, 257, 1000} {
			checkNotEncoded(t, "too many addresses", one(slices.Repeat([]api.Addr{from}, many)...), from)
		}
	}
}

func TestEncodeOfOtherAddresses(t *testing.T) {
	for _, many := range wrongLongs {
		wrong := api.Addr(strings.Repeat("a", many))
		for _, addr := range []api.Addr{four1, six1, wrong} {
			checkNotEncoded(t, "a from that is no address", one(addr), wrong)
		}
		checkNotEncoded(t, "a from that is no address", one(), wrong)
		for _, from := range []api.Addr{four1, six1} {
			checkNotEncoded(t, "an address of no kind", one(wrong), from)
			for at := range api.MaxAddrs {
				addrs := slices.Repeat([]api.Addr{from}, api.MaxAddrs)
				addrs[at] = wrong
				checkNotEncoded(t, "an address of no kind among others", one(addrs...), from)
			}
		}
	}
	for _, x := range [][2]api.Addr{{four1, six1}, {six1, four1}} {
		from, other := x[0], x[1]
		checkNotEncoded(t, "an address of the other kind", one(other), from)
		for at := range api.MaxAddrs {
			addrs := slices.Repeat([]api.Addr{from}, api.MaxAddrs)
			addrs[at] = other
			checkNotEncoded(t, "an address of the other kind among others", one(addrs...), from)
		}
	}
}

func TestEncodeOfMany(t *testing.T) {
	r := rand.New(rand.NewSource(1))
	for range 20000 {
		a, from := someAdvert(r)
		checkTaken(t, "some", a, from)
	}
}

// A sum may count as 0: it is told as Put says it, and Good takes it as 0 and as ffff.
func TestSumOfZero(t *testing.T) {
	for _, from := range []api.Addr{four1, six1} {
		a := one(from[2:] + "\x00\x00")
		p, _ := plainEncode(a, from)
		a.Addrs[0] = from[2:] + api.Addr(twoBytes(plainPut(p)))
		p, e := advert.Encode(a, from)
		if e != api.OK || p.Body[6:8] != "\x00\x00" || plainPut(p) != 0 {
			t.Fatalf("P6.1: a sum of 0: %x %d", p, e)
		}
		checkDecoded(t, "a sum of 0", p, a, api.OK)
		checkDecoded(t, "a sum of ffff", withSum(p, 0xffff), a, api.OK)
		checkRefused(t, "a sum of 1", withSum(p, 1), api.ErrAdvertSum)
	}
}

func TestDecodeOfHops(t *testing.T) {
	for _, p := range both() {
		for n := -300; n < 600; n++ {
			ttl, proto := p, p
			ttl.Ttl, proto.Proto = n, n
			checkPlainDecoded(t, "a Ttl", ttl)
			checkPlainDecoded(t, "a Proto", proto)
		}
		for _, n := range []int{math.MinInt, math.MaxInt, -1, 1 << 32, 256 + 112, 1<<32 + 112, 256 + 255, 1<<32 + 255, 111, 113, 254, 256} {
			ttl, proto := p, p
			ttl.Ttl, proto.Proto = n, n
			checkRefused(t, "a Ttl", ttl, api.ErrAdvertHops)
			checkRefused(t, "a Proto", proto, api.ErrAdvertHops)
		}
	}
}

func TestDecodeOfShortBodies(t *testing.T) {
	for _, p := range both() {
		for many := range 8 {
			q := p
			q.Body = p.Body[:many]
			checkRefused(t, "a short body", q, api.ErrAdvertShort)
		}
		q := p
		q.Body = p.Body[:8]
		checkRefused(t, "a body of 8 bytes", summed(q), api.ErrAdvertCount)
		q = put(q, 3, 0)
		checkRefused(t, "a body of 8 bytes that says no addresses", q, api.ErrAdvertCount)
	}
}

func TestDecodeOfAddressesOfOtherKinds(t *testing.T) {
	longs := append([]int{4, 16}, wrongLongs...)
	for _, i := range longs {
		for _, j := range longs {
			p := both()[0]
			if i == 16 {
				p = both()[1]
			}
			p.From, p.To = api.Addr(strings.Repeat("a", i)), api.Addr(strings.Repeat("b", j))
			p = summed(p)
			if i == j && (i == 4 || i == 16) {
				a, _ := plainDecode(p)
				checkDecoded(t, "another To than Group", p, a, api.OK)
				continue
			}
			checkRefused(t, "From and To of two kinds, or of none", p, api.ErrAdvertShort)
			checkRefused(t, "From and To of two kinds, or of none, and a bad sum", badSum(p), api.ErrAdvertShort)
			// Its addresses would be as long as From is.
			p.Body = p.Body[:8] + strings.Repeat("x", i+i)
			checkRefused(t, "From and To of two kinds, or of none, of that length", summed(p), api.ErrAdvertShort)
			p.Body = ""
			checkRefused(t, "From and To of two kinds, or of none, and no body", p, api.ErrAdvertShort)
		}
	}
}

func TestDecodeOfEachFirstByte(t *testing.T) {
	for _, p := range both() {
		for n := range 256 {
			q := put(p, 0, byte(n))
			switch {
			case n/16 != 3:
				checkRefused(t, "a version", q, api.ErrAdvertVersion)
			case n%16 != 1:
				checkRefused(t, "a type", q, api.ErrAdvertType)
			default:
				checkDecoded(t, "a first byte", q, one(addrsOf(p)...), api.OK)
			}
		}
	}
}

func TestDecodeOfEachCount(t *testing.T) {
	for _, p := range both() {
		long := len(p.From)
		for said := range 256 {
			for _, many := range []int{said - 1, said, said + 1, said % 8, said % 16} {
				for _, more := range []int{-1, 0, 1} {
					body := 8 + many*long + more
					if body < 8 {
						continue
					}
					q := p
					q.Body = p.Body[:3] + string([]byte{byte(said)}) + p.Body[4:8] + strings.Repeat("\xb5", body-8)
					q = summed(q)
					if said < 1 || said > 8 || many != said || more != 0 {
						checkRefused(t, "a count", q, api.ErrAdvertCount)
						continue
					}
					addr := api.Addr(strings.Repeat("\xb5", long))
					checkDecoded(t, "a count", q, one(slices.Repeat([]api.Addr{addr}, said)...), api.OK)
				}
			}
		}
	}
}

func TestDecodeOfEachNumber(t *testing.T) {
	for _, p := range both() {
		for n := range 256 {
			want := one(addrsOf(p)...)
			want.Priority = n
			checkDecoded(t, "a Priority", put(p, 2, byte(n)), want, api.OK)
			want = one(addrsOf(p)...)
			want.Id = n
			if n == 0 {
				checkRefused(t, "an Id of 0", put(p, 1, byte(n)), api.ErrAdvertId)
			} else {
				checkDecoded(t, "an Id", put(p, 1, byte(n)), want, api.OK)
			}
		}
		for n := range 65536 {
			q := put(put(p, 4, byte(n/256)), 5, byte(n%256))
			if n < 1 || n > 4095 {
				checkRefused(t, "an Every", q, api.ErrAdvertId)
				continue
			}
			want := one(addrsOf(p)...)
			want.Every = n
			checkDecoded(t, "an Every", q, want, api.OK)
		}
	}
}

func TestDecodeOfEachSum(t *testing.T) {
	for _, p := range both() {
		right := plainPut(p)
		for sum := range 65536 {
			if sum == right {
				checkDecoded(t, "a sum", withSum(p, sum), one(addrsOf(p)...), api.OK)
			} else {
				checkRefused(t, "a sum", withSum(p, sum), api.ErrAdvertSum)
			}
		}
	}
}

// Each is amiss by itself, and ahead of what is behind it.
func TestTheFirstThatIsAmissIsTold(t *testing.T) {
	body := func(at int, to byte) func(api.Ip) api.Ip {
		return func(p api.Ip) api.Ip {
			if len(p.Body) <= at {
				return p
			}
			b := []byte(p.Body)
			b[at] = to
			p.Body = string(b)
			return p
		}
	}
	amiss := []struct {
		errno api.Errno
		do    func(api.Ip) api.Ip
	}{
		{api.ErrAdvertHops, func(p api.Ip) api.Ip { p.Ttl = 254; return p }},
		{api.ErrAdvertHops, func(p api.Ip) api.Ip { p.Proto = 111; return p }},
		{api.ErrAdvertShort, func(p api.Ip) api.Ip { p.To += "x"; return p }},
		{api.ErrAdvertShort, func(p api.Ip) api.Ip { p.From, p.To = p.From+"x", p.To+"x"; return p }},
		{api.ErrAdvertShort, func(p api.Ip) api.Ip { p.Body = p.Body[:min(7, len(p.Body))]; return p }},
		{api.ErrAdvertVersion, func(p api.Ip) api.Ip { return body(0, 0x21)(p) }},
		{api.ErrAdvertVersion, func(p api.Ip) api.Ip { return body(0, 0x42)(p) }},
		{api.ErrAdvertType, func(p api.Ip) api.Ip {
			if p.Body == "" || p.Body[0]/16 != 3 {
				return p
			}
			return body(0, 0x32)(p)
		}},
		{api.ErrAdvertCount, body(3, 0)},
		{api.ErrAdvertCount, body(3, 9)},
		{api.ErrAdvertCount, func(p api.Ip) api.Ip { p.Body += "x"; return p }},
		{api.ErrAdvertSum, nil},
		{api.ErrAdvertId, body(1, 0)},
		{api.ErrAdvertId, body(4, 0x11)},
		{api.ErrAdvertId, func(p api.Ip) api.Ip { return body(5, 0)(body(4, 0)(p)) }},
	}
	for _, p := range both() {
		for i, first := range amiss {
			for _, second := range amiss[i:] {
				q, good := p, true
				// The first is done last, so that it stands where both change the same byte.
				for _, x := range []func(api.Ip) api.Ip{second.do, first.do} {
					if x == nil {
						good = false
					} else {
						q = x(q)
					}
				}
				if good {
					q = summed(q)
				} else {
					q = badSum(q)
				}
				checkRefused(t, "two things amiss", q, first.errno)
				checkPlainDecoded(t, "two things amiss", q)
			}
		}
	}
}

func TestOneByteAnother(t *testing.T) {
	r := rand.New(rand.NewSource(2))
	for range 12 {
		a, from := someAdvert(r)
		p, e := advert.Encode(a, from)
		if e != api.OK {
			t.Fatalf("P6.1: Encode(%x, %x): %d", a, from, e)
		}
		for at := range len(p.Body) {
			for n := range 256 {
				if byte(n) == p.Body[at] {
					continue
				}
				b := []byte(p.Body)
				b[at] = byte(n)
				q := p
				q.Body = string(b)
				checkOneByte(t, q)
			}
		}
		for at := range len(p.From) {
			for n := range 256 {
				if byte(n) == p.From[at] {
					continue
				}
				b := []byte(p.From)
				b[at] = byte(n)
				q := p
				q.From = api.Addr(b)
				checkOneByte(t, q)
				checkRefused(t, "another From", q, api.ErrAdvertSum)
			}
		}
	}
}

func checkOneByte(t *testing.T, q api.Ip) {
	t.Helper()
	if got, e := advert.Decode(q); e == api.OK || !reflect.DeepEqual(got, advert.Advert{}) {
		t.Errorf("P6.3: one byte is another one: Decode(%x): %x %d", q, got, e)
	}
	checkPlainDecoded(t, "one byte is another one", q)
}

func TestDecodeOfMany(t *testing.T) {
	r := rand.New(rand.NewSource(3))
	longs := []int{0, 4, 4, 4, 4, 4, 5, 16, 16, 16, 16, 16, 20}
	for range 30000 {
		from := longs[r.Intn(len(longs))]
		to := from
		if r.Intn(10) == 0 {
			to = longs[r.Intn(len(longs))]
		}
		many := r.Intn(11)
		long := 8 + many*from
		switch r.Intn(10) {
		case 0:
			long = r.Intn(9)
		case 1:
			long += r.Intn(5)
		}
		b := []byte(someText(r, max(long, 8)))
		if r.Intn(10) > 0 {
			b[0] = 0x31
		}
		if r.Intn(10) > 0 {
			b[3] = byte(many)
		}
		if r.Intn(4) > 0 {
			b[4] %= 16
		}
		if r.Intn(10) == 0 {
			b[1] = 0
		}
		p := api.Ip{From: api.Addr(someText(r, from)), To: api.Addr(someText(r, to)), Proto: 112, Ttl: 255, Body: string(b[:long])}
		if r.Intn(20) == 0 {
			p.Ttl = r.Intn(256)
		}
		if r.Intn(10) > 0 {
			p = summed(p)
		}
		checkPlainDecoded(t, "bytes", p)
	}
}

// What is told is the caller's own, and what was given is not kept.
func TestListsAreTheCallersOwn(t *testing.T) {
	for _, p := range both() {
		a, _ := advert.Decode(p)
		was := slices.Clone(a.Addrs)
		for k := range a.Addrs {
			a.Addrs[k] = "\x01\x02\x03\x04"
		}
		_ = append(a.Addrs[:0], "", "", "")
		if b, _ := advert.Decode(p); !slices.Equal(b.Addrs, was) {
			t.Errorf("P6.2: Decode(%x) after its list was written into: %x, not %x", p, b.Addrs, was)
		}
		given := one(was...)
		before, _ := advert.Encode(given, p.From)
		body := strings.Clone(before.Body)
		given.Addrs[0] = ""
		if before.Body != body {
			t.Errorf("P6.1: a packet changed with the list that it was made of: %x, not %x", before.Body, body)
		}
	}
}
