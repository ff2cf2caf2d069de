package ether_test

import (
	"bytes"
	"math"
	"math/rand"
	"strings"
	"testing"

	"outrider/api"
	"outrider/ether"
)

// plainBytes says what P2.1 says of Encode, for a frame that is not refused.
func plainBytes(f ether.Frame) []byte {
	b := []byte{f.To[0], f.To[1], f.To[2], f.To[3], f.To[4], f.To[5]}
	b = append(b, f.From[0], f.From[1], f.From[2], f.From[3], f.From[4], f.From[5])
	b = append(b, byte(f.Type/256), byte(f.Type%256))
	return append(b, f.Body...)
}

// head is a frame's first 14 bytes, with no byte twice but those of its type.
func head(kind int) []byte {
	return []byte{1, 2, 3, 4, 5, 6, 7, 8, 9, 10, 11, 12, byte(kind / 256), byte(kind % 256)}
}

func someMac(r *rand.Rand) api.Mac {
	var m api.Mac
	r.Read(m[:])
	return m
}

func someBody(r *rand.Rand, many int) string {
	b := make([]byte, many)
	r.Read(b)
	return string(b)
}

// someFrames are frames that are not refused: the edges of type and length, and others.
func someFrames(r *rand.Rand) []ether.Frame {
	var all []ether.Frame
	for _, kind := range []int{1536, 1537, api.TypeV4, api.TypeArp, 32768, api.TypeV6, 65534, 65535} {
		for _, many := range []int{0, 1, 2, 45, 46, 47, 1499, 1500} {
			all = append(all,
				ether.Frame{To: someMac(r), From: someMac(r), Type: kind, Body: someBody(r, many)},
				ether.Frame{Type: kind, Body: strings.Repeat("\x00", many)},
				ether.Frame{To: ether.All(), From: ether.All(), Type: kind, Body: strings.Repeat("\xff", many)})
		}
	}
	for range 1000 {
		kind := 1536 + r.Intn(65536-1536)
		all = append(all, ether.Frame{To: someMac(r), From: someMac(r), Type: kind, Body: someBody(r, r.Intn(1501))})
	}
	return all
}

func TestEncodeWritesToFromTypeBody(t *testing.T) {
	to, from := api.Mac{1, 2, 3, 4, 5, 6}, api.Mac{7, 8, 9, 10, 11, 12}
	for _, x := range []struct {
		f    ether.Frame
		want string
	}{
		{ether.Frame{To: to, From: from, Type: api.TypeV4, Body: "body"},
			"\x01\x02\x03\x04\x05\x06\x07\x08\x09\x0a\x0b\x0c\x08\x00body"},
		{ether.Frame{To: to, From: from, Type: 0x1234, Body: ""},
			"\x01\x02\x03\x04\x05\x06\x07\x08\x09\x0a\x0b\x0c\x12\x34"},
		{ether.Frame{To: from, From: to, Type: api.TypeV6, Body: "\x00"},
			"\x07\x08\x09\x0a\x0b\x0c\x01\x02\x03\x04\x05\x06\x86\xdd\x00"},
		{ether.Frame{Type: 1536}, strings.Repeat("\x00", 12) + "\x06\x00"},
		{ether.Frame{Type: 65535}, strings.Repeat("\x00", 12) + "\xff\xff"},
	} {
		if b, e := ether.Encode(x.f); e != api.OK || string(b) != x.want {
			t.Errorf("P2.1: Encode(%x): %x %d, not %x", x.f, b, e, x.want)
		}
	}
	for _, f := range someFrames(rand.New(rand.NewSource(1))) {
		if b, e := ether.Encode(f); e != api.OK || !bytes.Equal(b, plainBytes(f)) {
			t.Errorf("P2.1: Encode(%x): %x %d", f, b, e)
		}
	}
}

func TestEncodeRefuses(t *testing.T) {
	types := []int{math.MinInt, -65536 + 2048, -2048, -1, 0, 1, 1500, 1535, 65536, 65536 + 2048, 1 << 32, math.MaxInt}
	for _, kind := range types {
		for _, many := range []int{0, 1, 1500, 1501} {
			checkRefused(t, ether.Frame{To: ether.All(), Type: kind, Body: strings.Repeat("x", many)})
		}
	}
	for _, kind := range []int{1536, api.TypeV4, 65535} {
		for _, many := range []int{1501, 1502, 1514, 1515, 65536, 1 << 20} {
			checkRefused(t, ether.Frame{To: ether.All(), Type: kind, Body: strings.Repeat("x", many)})
		}
	}
}

func checkRefused(t *testing.T, f ether.Frame) {
	t.Helper()
	if b, e := ether.Encode(f); e != api.ErrArg || len(b) != 0 {
		t.Errorf("P2.1: Encode of Type %d and %d bytes: %d bytes, %d", f.Type, len(f.Body), len(b), e)
	}
}

func TestEncodeOfEveryType(t *testing.T) {
	for kind := -10; kind < 70000; kind++ {
		b, e := ether.Encode(ether.Frame{Type: kind})
		if is := e == api.OK; is != (kind >= 1536 && kind <= 65535) {
			t.Errorf("P2.1: Encode of Type %d: %d", kind, e)
		} else if is && (len(b) != 14 || int(b[12])*256+int(b[13]) != kind) {
			t.Errorf("P2.1: Encode of Type %d: %x", kind, b)
		}
	}
}

func TestDecodeReadsToFromTypeBody(t *testing.T) {
	to, from := api.Mac{1, 2, 3, 4, 5, 6}, api.Mac{7, 8, 9, 10, 11, 12}
	for _, kind := range []int{1536, 0x1234, api.TypeV4, api.TypeArp, api.TypeV6, 65535} {
		for _, body := range []string{"", "\x00", "body", strings.Repeat("\xfe", 1499), strings.Repeat("y", 1500)} {
			want := ether.Frame{To: to, From: from, Type: kind, Body: body}
			if f, e := ether.Decode(append(head(kind), body...)); e != api.OK || f != want {
				t.Errorf("P2.1: Decode of Type %d and %d bytes: %x %d", kind, len(body), f, e)
			}
		}
	}
}

func TestDecodeOfEveryLength(t *testing.T) {
	for _, kind := range []int{0, 1535, 1536, 65535} {
		all := append(head(kind), make([]byte, 2000)...)
		for many := range all {
			want := api.OK
			if many < 14 || many > 1514 {
				want = api.ErrEtherShort
			} else if kind < 1536 {
				want = api.ErrArg
			}
			f, e := ether.Decode(all[:many])
			if e != want {
				t.Errorf("P2.1: Decode of Type %d, %d bytes: %d, not %d", kind, many, e, want)
			}
			if e != api.OK && f != (ether.Frame{}) {
				t.Errorf("R1: Decode of Type %d, %d bytes: %x with an error", kind, many, f)
			}
		}
	}
	for _, b := range [][]byte{nil, {}, make([]byte, 1<<20)} {
		if f, e := ether.Decode(b); e != api.ErrEtherShort || f != (ether.Frame{}) {
			t.Errorf("P2.1: Decode of %d bytes: %x %d", len(b), f, e)
		}
	}
}

func TestDecodeOfEveryType(t *testing.T) {
	for kind := range 65536 {
		f, e := ether.Decode(head(kind))
		if kind < 1536 {
			if e != api.ErrArg || f != (ether.Frame{}) {
				t.Errorf("P2.1: Decode of Type %d: %x %d", kind, f, e)
			}
		} else if e != api.OK || f.Type != kind {
			t.Errorf("P2.1: Decode of Type %d: %x %d", kind, f, e)
		}
	}
}

func TestGroupIsTheFirstBytesLowestBit(t *testing.T) {
	for first := range 256 {
		for _, rest := range []byte{0, 1, 0xfe, 0xff} {
			m := api.Mac{byte(first), rest, rest, rest, rest, rest}
			if ether.Group(m) != (first%2 == 1) {
				t.Errorf("P2.2: Group(%x) is %v", m, ether.Group(m))
			}
		}
	}
}

func TestAllIsSixBytes(t *testing.T) {
	if m := ether.All(); m != (api.Mac{0xff, 0xff, 0xff, 0xff, 0xff, 0xff}) {
		t.Errorf("P2.2: All is %x", m)
	}
}

func TestVirtualOfEveryId(t *testing.T) {
	ids := []int{math.MinInt, math.MaxInt, 1 << 32, 65536 + 7, -65536 + 7}
	for id := -300; id <= 600; id++ {
		ids = append(ids, id)
	}
	for _, id := range ids {
		for _, six := range []bool{false, true} {
			var want api.Mac
			is := id >= 1 && id <= 255
			if is && six {
				want = api.Mac{0, 0, 0x5e, 0, 2, byte(id)}
			} else if is {
				want = api.Mac{0, 0, 0x5e, 0, 1, byte(id)}
			}
			if m, ok := ether.Virtual(id, six); m != want || ok != is {
				t.Errorf("P2.2: Virtual(%d, %v): %x %v, not %x", id, six, m, ok, want)
			}
		}
	}
}

func TestManyOfGroupsAddresses(t *testing.T) {
	middle := strings.Repeat("\x77", 11)
	for _, x := range []struct {
		a    api.Addr
		want api.Mac
	}{
		{"\xe0\x00\x00\x12", api.Mac{1, 0, 0x5e, 0, 0, 0x12}},
		{"\xe0\x00\x00\x00", api.Mac{1, 0, 0x5e, 0, 0, 0}},
		{"\xe0\x7f\x00\x12", api.Mac{1, 0, 0x5e, 0x7f, 0, 0x12}},
		{"\xe0\x80\x00\x12", api.Mac{1, 0, 0x5e, 0, 0, 0x12}},
		{"\xe1\x81\x82\x83", api.Mac{1, 0, 0x5e, 1, 0x82, 0x83}},
		{"\xef\xff\xff\xff", api.Mac{1, 0, 0x5e, 0x7f, 0xff, 0xff}},
		{api.Addr("\xff" + middle + "\x00\x00\x00\x12"), api.Mac{0x33, 0x33, 0, 0, 0, 0x12}},
		{api.Addr("\xff" + middle + "\x81\x82\x83\x84"), api.Mac{0x33, 0x33, 0x81, 0x82, 0x83, 0x84}},
		{api.Addr("\xff\xff" + middle[:10] + "\xff\xff\xff\xff"), api.Mac{0x33, 0x33, 0xff, 0xff, 0xff, 0xff}},
		{api.Addr("\xff" + strings.Repeat("\x00", 15)), api.Mac{0x33, 0x33, 0, 0, 0, 0}},
	} {
		if m, is := ether.Many(x.a); m != x.want || !is {
			t.Errorf("P2.2: Many(%x): %x %v, not %x", x.a, m, is, x.want)
		}
	}
}

func TestManyOfEveryFirstByteAndLength(t *testing.T) {
	for first := range 256 {
		for many := range 40 {
			a := api.Addr(append([]byte{byte(first)}, bytes.Repeat([]byte{0x99}, many)...))
			var want api.Mac
			if len(a) == 4 && first >= 0xe0 && first <= 0xef {
				want = api.Mac{1, 0, 0x5e, 0x19, 0x99, 0x99}
			} else if len(a) == 16 && first == 0xff {
				want = api.Mac{0x33, 0x33, 0x99, 0x99, 0x99, 0x99}
			}
			if m, is := ether.Many(a); m != want || is != (want != api.Mac{}) {
				t.Errorf("P2.2: Many(%x): %x %v, not %x", a, m, is, want)
			}
		}
	}
	if m, is := ether.Many(""); m != (api.Mac{}) || is {
		t.Errorf("P2.2: Many of nothing: %x %v", m, is)
	}
}

func TestDecodeOfEncodeIsTheFrame(t *testing.T) {
	for _, f := range someFrames(rand.New(rand.NewSource(2))) {
		b, e := ether.Encode(f)
		if e != api.OK {
			t.Errorf("P2.3: Encode(%x): %d", f, e)
		}
		if g, e := ether.Decode(b); e != api.OK || g != f {
			t.Errorf("P2.3: Decode(Encode(%x)): %x %d", f, g, e)
		}
	}
}

func TestEncodeOfDecodeIsTheBytes(t *testing.T) {
	r := rand.New(rand.NewSource(3))
	told := 0
	for range 3000 {
		b := []byte(someBody(r, r.Intn(1600)))
		f, e := ether.Decode(b)
		if e != api.OK {
			continue
		}
		told++
		if c, e := ether.Encode(f); e != api.OK || !bytes.Equal(b, c) {
			t.Errorf("P2.3: %x is %x %d when it is written again", b, c, e)
		}
	}
	for _, kind := range []int{1536, 65535} {
		for _, many := range []int{0, 1500} {
			b := append(head(kind), someBody(r, many)...)
			f, _ := ether.Decode(b)
			if c, e := ether.Encode(f); e != api.OK || !bytes.Equal(b, c) {
				t.Errorf("P2.3: %x is %x %d when it is written again", b, c, e)
			}
		}
	}
	if told < 1000 {
		t.Error("P2.3: too few frames were told:", told)
	}
}

func TestManyIsAGroupsAndVirtualIsNot(t *testing.T) {
	r := rand.New(rand.NewSource(4))
	for k := range 1000 {
		four, sixteen := string([]byte{byte(0xe0 + k%16)})+someBody(r, 3), "\xff"+someBody(r, 15)
		for _, a := range []string{four, sixteen} {
			if m, is := ether.Many(api.Addr(a)); !is || !ether.Group(m) {
				t.Errorf("P2.3: Many(%x) is %x %v, no Group's", a, m, is)
			}
		}
	}
	for id := 1; id <= 255; id++ {
		for _, six := range []bool{false, true} {
			if m, is := ether.Virtual(id, six); !is || ether.Group(m) {
				t.Errorf("P2.3: Virtual(%d, %v) is %x %v, a Group's", id, six, m, is)
			}
		}
	}
	if !ether.Group(ether.All()) {
		t.Error("P2.3: All is no Group's")
	}
}

func TestBytesAreTheCallersOwn(t *testing.T) {
	b := append(head(api.TypeV4), "body"...)
	was := bytes.Clone(b)
	f, _ := ether.Decode(b)
	if !bytes.Equal(b, was) {
		t.Errorf("R5: Decode changed %x to %x", was, b)
	}
	want := ether.Frame{To: api.Mac{1, 2, 3, 4, 5, 6}, From: api.Mac{7, 8, 9, 10, 11, 12}, Type: api.TypeV4, Body: "body"}
	clear(b)
	if f != want {
		t.Errorf("R6: the frame changed with its bytes: %x", f)
	}
	one, _ := ether.Encode(f)
	two, _ := ether.Encode(f)
	clear(one)
	if f != want || !bytes.Equal(two, was) {
		t.Errorf("R6: what is written into one answer is seen in others: %x %x", f, two)
	}
}
