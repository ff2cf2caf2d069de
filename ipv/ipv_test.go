package ipv_test

import (
	"bytes"
	"math"
	"math/rand"
	"strings"
	"testing"

	"outrider/api"
	"outrider/ipv"
)

const (
	four1 = api.Addr("\xc0\xa8\x00\x01")
	four2 = api.Addr("\xc0\xa8\x00\xc7")
	six1  = api.Addr("0123456789abcdef")
	six2  = api.Addr("fedcba9876543210")
)

// plainPut is the sum of chapter 1, of an even number of bytes, ready to be put.
func plainPut(b []byte) int {
	n := 0
	for i := 0; i < len(b); i += 2 {
		n += int(b[i])*256 + int(b[i+1])
		if n > 65535 {
			n -= 65535
		}
	}
	return 65535 - n
}

// mend puts the right sum into a header of version 4.
func mend(b []byte) []byte {
	b[10], b[11] = 0, 0
	n := plainPut(b[:20])
	b[10], b[11] = byte(n/256), byte(n%256)
	return b
}

// plainBytes says what P3.1 says of Encode, for a packet that is not refused.
func plainBytes(p api.Ip) []byte {
	n := len(p.Body)
	if len(p.From) == 16 {
		b := []byte{0x60, 0, 0, 0, byte(n / 256), byte(n % 256), byte(p.Proto), byte(p.Ttl)}
		return append(append(append(b, p.From...), p.To...), p.Body...)
	}
	b := []byte{0x45, 0, byte((n + 20) / 256), byte((n + 20) % 256), 0, 0, 0x40, 0, byte(p.Ttl), byte(p.Proto), 0, 0}
	b = append(append(b, p.From...), p.To...)
	return append(mend(b), p.Body...)
}

// plainDecode says what P3.2 says, line by line.
func plainDecode(b []byte) (api.Ip, api.Errno) {
	none := api.Ip{}
	if len(b) == 0 {
		return none, api.ErrIpShort
	}
	version := b[0] / 16
	if version != 4 && version != 6 {
		return none, api.ErrIpVersion
	}
	if version == 6 {
		if len(b) < 40 {
			return none, api.ErrIpShort
		}
		long := int(b[4])*256 + int(b[5])
		if long > len(b)-40 {
			return none, api.ErrIpLong
		}
		return api.Ip{From: api.Addr(b[8:24]), To: api.Addr(b[24:40]), Proto: int(b[6]), Ttl: int(b[7]), Body: string(b[40 : 40+long])}, api.OK
	}
	if len(b) < 20 {
		return none, api.ErrIpShort
	}
	if b[0]%16 != 5 {
		return none, api.ErrIpHead
	}
	long := int(b[2])*256 + int(b[3])
	if long < 20 || long > len(b) {
		return none, api.ErrIpLong
	}
	if plainPut(b[:20]) != 0 {
		return none, api.ErrIpSum
	}
	if b[6] != 0 && b[6] != 0x40 || b[7] != 0 {
		return none, api.ErrIpHead
	}
	return api.Ip{From: api.Addr(b[12:16]), To: api.Addr(b[16:20]), Proto: int(b[9]), Ttl: int(b[8]), Body: string(b[20:long])}, api.OK
}

func someText(r *rand.Rand, many int) string {
	b := make([]byte, many)
	r.Read(b)
	return string(b)
}

// somePackets are packets that are not refused: the edges of their numbers and lengths, and others.
func somePackets(r *rand.Rand) []api.Ip {
	var all []api.Ip
	for _, kind := range []int{4, 16} {
		most := 1480
		if kind == 16 {
			most = 1460
		}
		for _, many := range []int{0, 1, 2, 19, 20, 21, 39, 40, 41, 235, 236, 255, 256, 1459, 1460, most - 1, most} {
			for _, number := range []int{0, 1, 6, 17, 58, 112, 127, 128, 254, 255} {
				all = append(all,
					api.Ip{From: api.Addr(someText(r, kind)), To: api.Addr(someText(r, kind)), Proto: number, Ttl: 255 - number/2, Body: someText(r, many)},
					api.Ip{From: api.Addr(someText(r, kind)), To: api.Addr(someText(r, kind)), Proto: 255 - number/3, Ttl: number, Body: someText(r, many)})
			}
			for _, fill := range []string{"\x00", "\xff"} {
				a := api.Addr(strings.Repeat(fill, kind))
				n := int(fill[0])
				all = append(all, api.Ip{From: a, To: a, Proto: n, Ttl: n, Body: strings.Repeat(fill, many)})
			}
		}
		for range 300 {
			all = append(all, api.Ip{From: api.Addr(someText(r, kind)), To: api.Addr(someText(r, kind)), Proto: r.Intn(256), Ttl: r.Intn(256), Body: someText(r, r.Intn(most+1))})
		}
	}
	return all
}

func TestEncodeWritesBothVersions(t *testing.T) {
	for _, x := range []struct {
		p    api.Ip
		want string
	}{
		{api.Ip{From: four1, To: four2, Proto: 17, Ttl: 64, Body: strings.Repeat("x", 95)},
			"\x45\x00\x00\x73\x00\x00\x40\x00\x40\x11\xb8\x61\xc0\xa8\x00\x01\xc0\xa8\x00\xc7" + strings.Repeat("x", 95)},
		{api.Ip{From: "\x00\x00\x00\x00", To: "\x00\x00\x00\x00"},
			"\x45\x00\x00\x14\x00\x00\x40\x00\x00\x00\x7a\xeb\x00\x00\x00\x00\x00\x00\x00\x00"},
		{api.Ip{From: six1, To: six2, Proto: 58, Ttl: 255, Body: "xy"},
			"\x60\x00\x00\x00\x00\x02\x3a\xff0123456789abcdeffedcba9876543210xy"},
		{api.Ip{From: six2, To: six1, Proto: 1, Ttl: 2},
			"\x60\x00\x00\x00\x00\x00\x01\x02fedcba98765432100123456789abcdef"},
		{api.Ip{From: six1, To: six2, Proto: 6, Ttl: 1, Body: strings.Repeat("z", 258)},
			"\x60\x00\x00\x00\x01\x02\x06\x010123456789abcdeffedcba9876543210" + strings.Repeat("z", 258)},
	} {
		if b, e := ipv.Encode(x.p); e != api.OK || string(b) != x.want {
			t.Errorf("P3.1: Encode(%x): %x %d, not %x", x.p, b, e, x.want)
		}
	}
	for _, p := range somePackets(rand.New(rand.NewSource(1))) {
		if b, e := ipv.Encode(p); e != api.OK || !bytes.Equal(b, plainBytes(p)) {
			t.Errorf("P3.1: Encode(%x): %x %d", p, b, e)
		}
	}
}

func checkRefused(t *testing.T, p api.Ip) {
	t.Helper()
	if b, e := ipv.Encode(p); e != api.ErrArg || len(b) != 0 {
		t.Errorf("P3.1: Encode of From %x, To %x, Proto %d, Ttl %d, %d bytes: %d bytes, %d", p.From, p.To, p.Proto, p.Ttl, len(p.Body), len(b), e)
	}
}

func TestEncodeOfAddressesOfEveryLength(t *testing.T) {
	for a := range 40 {
		for b := range 40 {
			p := api.Ip{From: api.Addr(strings.Repeat("a", a)), To: api.Addr(strings.Repeat("b", b)), Ttl: 1}
			if a == b && (a == 4 || a == 16) {
				if got, e := ipv.Encode(p); e != api.OK || !bytes.Equal(got, plainBytes(p)) {
					t.Errorf("P3.1: Encode(%x): %x %d", p, got, e)
				}
			} else {
				checkRefused(t, p)
			}
		}
	}
	long := api.Addr(strings.Repeat("a", 1<<16+4))
	checkRefused(t, api.Ip{From: long, To: long})
	checkRefused(t, api.Ip{From: four1, To: long})
}

func TestEncodeOfProtoAndTtl(t *testing.T) {
	numbers := []int{math.MinInt, -65536, -256, -255, 512, 65536, 65536 + 17, 1 << 32, math.MaxInt}
	for n := -3; n <= 260; n++ {
		numbers = append(numbers, n)
	}
	for _, n := range numbers {
		for _, p := range []api.Ip{
			{From: four1, To: four2, Proto: n, Ttl: 64}, {From: four1, To: four2, Proto: 17, Ttl: n},
			{From: six1, To: six2, Proto: n, Ttl: 64}, {From: six1, To: six2, Proto: 17, Ttl: n},
		} {
			if n < 0 || n > 255 {
				checkRefused(t, p)
			} else if b, e := ipv.Encode(p); e != api.OK || !bytes.Equal(b, plainBytes(p)) {
				t.Errorf("P3.1: Encode(%x): %x %d", p, b, e)
			}
		}
	}
}

func TestEncodeOfBodiesOfEveryLength(t *testing.T) {
	for many := range 1600 {
		body := strings.Repeat("b", many)
		for _, x := range []struct {
			p    api.Ip
			most int
		}{{api.Ip{From: four1, To: four2, Proto: 6, Ttl: 9, Body: body}, 1480}, {api.Ip{From: six1, To: six2, Proto: 6, Ttl: 9, Body: body}, 1460}} {
			if many > x.most {
				checkRefused(t, x.p)
			} else if b, e := ipv.Encode(x.p); e != api.OK || !bytes.Equal(b, plainBytes(x.p)) {
				t.Errorf("P3.1: Encode of %d bytes from %x: %x %d", many, x.p.From, b, e)
			}
		}
	}
	for _, many := range []int{65535, 65536, 65536 + 20, 1 << 20} {
		checkRefused(t, api.Ip{From: four1, To: four2, Body: strings.Repeat("b", many)})
		checkRefused(t, api.Ip{From: six1, To: six2, Body: strings.Repeat("b", many)})
	}
}

// checkDecode holds an answer against the one that the chapter's words give.
func checkDecode(t *testing.T, b []byte) api.Errno {
	t.Helper()
	want, wantErr := plainDecode(b)
	p, e := ipv.Decode(b)
	if e != wantErr || p != want {
		t.Errorf("P3.2: Decode(%x): %x %d, not %x %d", b, p, e, want, wantErr)
	}
	return e
}

// checkErr holds an error against the one that is named, too.
func checkErr(t *testing.T, b []byte, want api.Errno) {
	t.Helper()
	if e := checkDecode(t, b); e != want {
		t.Errorf("P3.2: Decode(%x): %d, not %d", b, e, want)
	}
}

func TestDecodeOfNothingAndOfOtherVersions(t *testing.T) {
	checkErr(t, nil, api.ErrIpShort)
	checkErr(t, []byte{}, api.ErrIpShort)
	for first := range 256 {
		for _, many := range []int{1, 2, 19, 20, 21, 39, 40, 41, 60, 1500} {
			b := make([]byte, many)
			b[0] = byte(first)
			switch version := first / 16; {
			case version != 4 && version != 6:
				checkErr(t, b, api.ErrIpVersion)
			case version == 4 && many < 20 || version == 6 && many < 40:
				checkErr(t, b, api.ErrIpShort)
			case version == 4 && first != 0x45:
				checkErr(t, b, api.ErrIpHead)
			case version == 4:
				checkErr(t, b, api.ErrIpLong)
			default:
				checkErr(t, b, api.OK)
			}
		}
	}
}

func TestDecodeOfFourOfEveryLength(t *testing.T) {
	for _, body := range []string{"", "x", "body", strings.Repeat("y", 300)} {
		whole := plainBytes(api.Ip{From: four1, To: four2, Proto: 6, Ttl: 7, Body: body})
		for many := range len(whole) + 30 {
			b := append(bytes.Clone(whole), make([]byte, 30)...)[:many]
			switch {
			case many < 20:
				checkErr(t, b, api.ErrIpShort)
			case many < len(whole):
				checkErr(t, b, api.ErrIpLong)
			default:
				checkErr(t, b, api.OK)
			}
		}
	}
}

func TestDecodeOfSixOfEveryLength(t *testing.T) {
	for _, body := range []string{"", "x", "body", strings.Repeat("y", 300)} {
		whole := plainBytes(api.Ip{From: six1, To: six2, Proto: 6, Ttl: 7, Body: body})
		for many := range len(whole) + 30 {
			b := append(bytes.Clone(whole), make([]byte, 30)...)[:many]
			switch {
			case many == 0 || many < 40:
				checkErr(t, b, api.ErrIpShort)
			case many < len(whole):
				checkErr(t, b, api.ErrIpLong)
			default:
				checkErr(t, b, api.OK)
			}
		}
	}
}

func TestDecodeOfLengthsThatAreSaid(t *testing.T) {
	for _, many := range []int{20, 21, 40, 276, 1500, 1600, 65535, 70000} {
		for _, said := range []int{0, 1, 18, 19, 20, 21, 22, 255, 256, many - 1, many, many + 1, many + 256, 65534, 65535} {
			if said > 65535 {
				continue
			}
			b := []byte(strings.Repeat("v", many))
			copy(b, "\x45\x00\x00\x00\x00\x00\x40\x00")
			b[2], b[3] = byte(said/256), byte(said%256)
			if said < 20 || said > many {
				checkErr(t, mend(b), api.ErrIpLong)
			} else {
				checkErr(t, mend(b), api.OK)
			}
		}
	}
	for _, many := range []int{40, 41, 42, 296, 1500, 65575, 70000} {
		for _, said := range []int{0, 1, 2, 255, 256, many - 41, many - 40, many - 39, many, 65535} {
			if said > 65535 || said < 0 {
				continue
			}
			b := []byte(strings.Repeat("v", many))
			copy(b, "\x60\x00\x00\x00")
			b[4], b[5] = byte(said/256), byte(said%256)
			if said > many-40 {
				checkErr(t, b, api.ErrIpLong)
			} else {
				checkErr(t, b, api.OK)
			}
		}
	}
}

func TestDecodeOfEachBitOfFourHeads(t *testing.T) {
	whole := plainBytes(api.Ip{From: four1, To: four2, Proto: 17, Ttl: 64, Body: "body"})
	for bit := range 20 * 8 {
		at, mask := bit/8, byte(1)<<(bit%8)
		b := bytes.Clone(whole)
		b[at] ^= mask
		switch {
		case at == 0 && mask > 8:
			// 6, beside which the rest is short, or a version that there is not.
			if e := checkDecode(t, b); e != api.ErrIpVersion && e != api.ErrIpShort {
				t.Errorf("P3.2: Decode(%x): %d", b, e)
			}
		case at == 0:
			checkErr(t, b, api.ErrIpHead)
		case at == 2 || at == 3:
			checkErr(t, b, longOrSum(b))
		default:
			checkErr(t, b, api.ErrIpSum)
		}
		if at == 0 {
			continue
		}
		mend(b)
		switch {
		case at == 2 || at == 3:
			if e := longOrSum(b); e == api.ErrIpLong {
				checkErr(t, b, e)
			} else {
				checkErr(t, b, api.OK)
			}
		case at == 6 && mask != 0x40 || at == 7:
			checkErr(t, b, api.ErrIpHead)
		default:
			checkErr(t, b, api.OK)
		}
	}
}

// longOrSum is what is amiss where a bit of the length was turned, and the sum was not mended.
func longOrSum(b []byte) api.Errno {
	if long := int(b[2])*256 + int(b[3]); long < 20 || long > len(b) {
		return api.ErrIpLong
	}
	return api.ErrIpSum
}

func TestDecodeOfEveryPartsNumber(t *testing.T) {
	for n := range 65536 {
		b := plainBytes(api.Ip{From: four1, To: four2, Proto: 17, Ttl: 64, Body: "body"})
		b[6], b[7] = byte(n/256), byte(n%256)
		want := api.ErrIpHead
		if n == 0 || n == 0x4000 {
			want = api.OK
		}
		if _, e := ipv.Decode(mend(b)); e != want {
			t.Errorf("P3.2: Decode with %04x at 6: %d, not %d", n, e, want)
		}
	}
}

func TestDecodeTellsTheFirstThingAmiss(t *testing.T) {
	base := plainBytes(api.Ip{From: four1, To: four2, Proto: 17, Ttl: 64, Body: "body"})
	faults := []struct {
		name string
		e    api.Errno
		do   func(b []byte)
	}{
		{"version", api.ErrIpVersion, func(b []byte) { b[0] = b[0]&15 | 0x50 }},
		{"short", api.ErrIpShort, func(b []byte) {}},
		{"low bits", api.ErrIpHead, func(b []byte) { b[0] = b[0]&0xf0 | 6 }},
		{"length", api.ErrIpLong, func(b []byte) { b[3] = 19 }},
		{"sum", api.ErrIpSum, func(b []byte) { b[10] ^= 1 }},
		{"parts", api.ErrIpHead, func(b []byte) { b[6] = 0x20 }},
	}
	for i, first := range faults {
		for _, second := range faults[i+1:] {
			b := bytes.Clone(base)
			first.do(b)
			second.do(b)
			if first.name != "sum" && second.name != "sum" {
				mend(b)
			}
			if first.name == "short" || second.name == "short" {
				b = b[:19]
			}
			if e := checkDecode(t, b); e != first.e {
				t.Errorf("P3.2: %s and %s are amiss: %d, not %d", first.name, second.name, e, first.e)
			}
		}
	}
	six := plainBytes(api.Ip{From: six1, To: six2, Body: "body"})
	six[5] = 5
	checkErr(t, six, api.ErrIpLong)
	checkErr(t, six[:39], api.ErrIpShort)
	six[0] = 0x70
	checkErr(t, six, api.ErrIpVersion)
	checkErr(t, six[:39], api.ErrIpVersion)
}

// Of version 6 no more is looked at than the chapter says; of version 4, too.
func TestDecodeTakesWhatIsNotAmiss(t *testing.T) {
	want := api.Ip{From: six1, To: six2, Proto: 6, Ttl: 7, Body: "body"}
	for at := range 4 {
		for n := range 256 {
			b := plainBytes(want)
			b[at] = byte(n)
			if at == 0 {
				b[0] = 0x60 | byte(n%16)
			}
			if p, e := ipv.Decode(b); e != api.OK || p != want {
				t.Errorf("P3.2: Decode(%x): %x %d", b, p, e)
			}
		}
	}
	want = api.Ip{From: four1, To: four2, Proto: 6, Ttl: 7, Body: "body"}
	for _, at := range []int{1, 4, 5} {
		for n := range 256 {
			b := plainBytes(want)
			b[at] = byte(n)
			if p, e := ipv.Decode(mend(b)); e != api.OK || p != want {
				t.Errorf("P3.2: Decode(%x): %x %d", b, p, e)
			}
		}
	}
}

func TestDecodeOfAnyBytes(t *testing.T) {
	r := rand.New(rand.NewSource(3))
	seen := map[api.Errno]int{}
	for k := range 60000 {
		b := []byte(someText(r, r.Intn(90)))
		if len(b) > 3 && k%3 > 0 {
			b[0] = []byte{0x45, 0x60, 0x46, 0x65}[r.Intn(4)]
			b[2], b[3] = 0, byte(r.Intn(100))
		}
		if len(b) >= 20 && k%2 == 0 {
			b[4], b[5] = 0, byte(r.Intn(60))
			b[6], b[7] = b[6]&0x60, 0
			mend(b)
		}
		seen[checkDecode(t, b)]++
	}
	for _, e := range []api.Errno{api.OK, api.ErrIpShort, api.ErrIpVersion, api.ErrIpHead, api.ErrIpLong, api.ErrIpSum} {
		if seen[e] < 100 {
			t.Errorf("P3.2: %d came only %d times", e, seen[e])
		}
	}
}

func TestPseudoOfBothKinds(t *testing.T) {
	for _, x := range []struct {
		from, to    api.Addr
		proto, long int
		want        string
	}{
		{"\x0a\x00\x00\x01", "\x0a\x00\x00\x02", 17, 8, "\x0a\x00\x00\x01\x0a\x00\x00\x02\x00\x11\x00\x08"},
		{four1, four2, 0, 0, "\xc0\xa8\x00\x01\xc0\xa8\x00\xc7\x00\x00\x00\x00"},
		{four1, four2, 255, 65535, "\xc0\xa8\x00\x01\xc0\xa8\x00\xc7\x00\xff\xff\xff"},
		{four1, four2, 0x1234, 0x56789abc, "\xc0\xa8\x00\x01\xc0\xa8\x00\xc7\x00\x34\x9a\xbc"},
		{four1, four2, -1, -2, "\xc0\xa8\x00\x01\xc0\xa8\x00\xc7\x00\xff\xff\xfe"},
		{four1, four2, math.MinInt, math.MaxInt, "\xc0\xa8\x00\x01\xc0\xa8\x00\xc7\x00\x00\xff\xff"},
		{six1, six2, 58, 0x102, "0123456789abcdeffedcba9876543210\x00\x00\x01\x02\x00\x00\x00\x3a"},
		{six2, six1, 0, 0, "fedcba98765432100123456789abcdef\x00\x00\x00\x00\x00\x00\x00\x00"},
		{six1, six2, 255, 0xffffffff, "0123456789abcdeffedcba9876543210\xff\xff\xff\xff\x00\x00\x00\xff"},
		{six1, six2, 0x1234, 0x123456789a, "0123456789abcdeffedcba9876543210\x34\x56\x78\x9a\x00\x00\x00\x34"},
		{six1, six2, -2, -3, "0123456789abcdeffedcba9876543210\xff\xff\xff\xfd\x00\x00\x00\xfe"},
		{six1, six2, math.MaxInt, math.MinInt, "0123456789abcdeffedcba9876543210\x00\x00\x00\x00\x00\x00\x00\xff"},
	} {
		if b := ipv.Pseudo(x.from, x.to, x.proto, x.long); string(b) != x.want {
			t.Errorf("P3.3: Pseudo(%x, %x, %d, %d): %x, not %x", x.from, x.to, x.proto, x.long, b, x.want)
		}
	}
}

func TestPseudoOfAddressesOfEveryLength(t *testing.T) {
	for a := range 40 {
		for b := range 40 {
			from, to := api.Addr(strings.Repeat("a", a)), api.Addr(strings.Repeat("b", b))
			var want string
			switch {
			case a == 4 && b == 4:
				want = "aaaabbbb\x00\x06\x01\x02"
			case a == 16 && b == 16:
				want = string(from+to) + "\x00\x00\x01\x02\x00\x00\x00\x06"
			}
			if got := ipv.Pseudo(from, to, 6, 0x102); string(got) != want {
				t.Errorf("P3.3: Pseudo of %d and %d bytes: %x, not %x", a, b, got, want)
			}
		}
	}
}

func TestRightAndSixOfEveryLength(t *testing.T) {
	for _, fill := range []string{"\x00", "a", "\xff"} {
		for many := range 300 {
			a := api.Addr(strings.Repeat(fill, many))
			if ipv.Right(a) != (many == 4 || many == 16) {
				t.Errorf("P3.3: Right of %d bytes is %v", many, ipv.Right(a))
			}
			if ipv.Six(a) != (many == 16) {
				t.Errorf("P3.3: Six of %d bytes is %v", many, ipv.Six(a))
			}
		}
	}
}

func TestDecodeOfEncodeIsThePacket(t *testing.T) {
	r := rand.New(rand.NewSource(2))
	for _, p := range somePackets(r) {
		b, e := ipv.Encode(p)
		if e != api.OK {
			t.Errorf("P3.4: Encode(%x): %d", p, e)
		}
		for _, behind := range []string{"", "\x00", "\xff\xff", string(b), someText(r, 1+r.Intn(100)), strings.Repeat("\x45", 2000)} {
			if q, e := ipv.Decode(append(bytes.Clone(b), behind...)); e != api.OK || q != p {
				t.Errorf("P3.4: Decode(Encode(%x)) with %d bytes behind it: %x %d", p, len(behind), q, e)
			}
		}
	}
}

func TestBytesAreTheCallersOwn(t *testing.T) {
	for _, p := range []api.Ip{{From: four1, To: four2, Proto: 6, Ttl: 7, Body: "body"}, {From: six1, To: six2, Proto: 6, Ttl: 7, Body: "body"}} {
		b := append(plainBytes(p), "behind"...)
		was := bytes.Clone(b)
		q, _ := ipv.Decode(b)
		if !bytes.Equal(b, was) {
			t.Errorf("R5: Decode changed %x to %x", was, b)
		}
		clear(b)
		if q != p {
			t.Errorf("R6: the packet changed with its bytes: %x", q)
		}
		one, _ := ipv.Encode(p)
		two, _ := ipv.Encode(p)
		clear(one)
		if q != p || !bytes.Equal(two, plainBytes(p)) {
			t.Errorf("R6: what is written into one answer is seen in others: %x %x", q, two)
		}
		first := ipv.Pseudo(p.From, p.To, 6, 9)
		second := ipv.Pseudo(p.From, p.To, 6, 9)
		third := bytes.Clone(second)
		clear(first)
		if !bytes.Equal(second, third) || q != p {
			t.Errorf("R6: what is written into one Pseudo is seen in another: %x", second)
		}
	}
}
