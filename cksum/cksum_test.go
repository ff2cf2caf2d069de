package cksum_test

import (
	"bytes"
	"math/big"
	"math/rand"
	"testing"

	"outrider/cksum"
)

// plainSum says what P1.1 says, word by word and without limits: the tests hold the package against it.
func plainSum(parts ...[]byte) uint16 {
	all := bytes.Join(parts, nil)
	if len(all)%2 == 1 {
		all = append(all, 0)
	}
	total := new(big.Int)
	for at := 0; at < len(all); at += 2 {
		total.Add(total, new(big.Int).SetBytes(all[at:at+2]))
	}
	low := big.NewInt(0xffff)
	for total.BitLen() > 16 {
		above := new(big.Int).Rsh(total, 16)
		total.And(total, low)
		total.Add(total, above)
	}
	return uint16(total.Uint64())
}

// plainUpdate says what P1.2 says of Update.
func plainUpdate(sum, from, to uint16) uint16 {
	return ^plainSum(two(^sum), two(^from), two(to))
}

func two(n uint16) []byte {
	return []byte{byte(n >> 8), byte(n)}
}

// someBytes leans to 0 and ff, where the carries and the two zeros are.
func someBytes(r *rand.Rand, many int) []byte {
	b := make([]byte, many)
	for k := range b {
		switch r.Intn(4) {
		case 0:
			b[k] = 0
		case 1:
			b[k] = 0xff
		default:
			b[k] = byte(r.Intn(256))
		}
	}
	return b
}

// cut tells the bytes in parts, some of them empty.
func cut(r *rand.Rand, b []byte) [][]byte {
	var parts [][]byte
	for len(b) > 0 {
		many := min(r.Intn(5), len(b))
		parts = append(parts, b[:many])
		b = b[many:]
	}
	return append(parts, nil)
}

// edges are the numbers at which a sum of 16 bits carries, or counts as 0.
func edges() []uint16 {
	return []uint16{0, 1, 2, 0xff, 0x100, 0x7fff, 0x8000, 0x8001, 0xff00, 0xfffd, 0xfffe, 0xffff}
}

func TestSumPutGoodOfParts(t *testing.T) {
	for _, x := range []struct {
		name  string
		parts [][]byte
		want  uint16
	}{
		{"no parts", nil, 0},
		{"an empty part", [][]byte{{}}, 0},
		{"parts that are nil or empty", [][]byte{nil, {}, nil}, 0},
		{"the chapter's example", [][]byte{{0x00, 0x01, 0xf2, 0x03, 0xf4, 0xf5, 0xf6, 0xf7}}, 0xddf2},
		{"the higher byte first", [][]byte{{0x12, 0x34}}, 0x1234},
		{"one byte", [][]byte{{0x01}}, 0x0100},
		{"one byte behind an empty part", [][]byte{{}, {0x01}, nil}, 0x0100},
		{"an odd number of bytes at the end", [][]byte{{1, 2, 3}}, 0x0402},
		{"an odd part ahead of another", [][]byte{{1}, {2}}, 0x0102},
		{"an odd part ahead of an empty one", [][]byte{{1}, {}, nil, {2}}, 0x0102},
		{"an odd part ahead of an even one", [][]byte{{1}, {2, 3}}, 0x0402},
		{"two odd parts ahead of an even one", [][]byte{{1}, {2, 3, 4}, {5, 6}}, 0x090c},
		{"three odd parts", [][]byte{{1}, {2}, {3}}, 0x0402},
		{"a carry", [][]byte{{0xff, 0xff, 0x00, 0x01}}, 0x0001},
		{"a carry of two", [][]byte{{0xff, 0xff, 0xff, 0xff, 0x00, 0x02}}, 0x0002},
		{"a carry that carries again", [][]byte{{0xff, 0xff, 0xff, 0xff, 0x00, 0x01}}, 0x0001},
		{"ffff is not 0", [][]byte{{0xff, 0xff}}, 0xffff},
		{"ffff and 0", [][]byte{{0xff, 0xff, 0x00, 0x00}}, 0xffff},
		{"ffff twice", [][]byte{{0xff, 0xff}, {0xff, 0xff}}, 0xffff},
		{"zeros", [][]byte{{0, 0, 0}, {0}}, 0},
		{"a packet's head, with its sum", [][]byte{
			{0x45, 0x00, 0x00, 0x73, 0x00, 0x00, 0x40, 0x00, 0x40, 0x11}, {0xb8, 0x61},
			{0xc0, 0xa8, 0x00, 0x01, 0xc0, 0xa8, 0x00, 0xc7}}, 0xffff},
		{"more than 32 bits", [][]byte{bytes.Repeat([]byte{0xff}, 2*0x10002)}, 0xffff},
	} {
		checkParts(t, x.name, x.parts, x.want)
	}
}

func checkParts(t *testing.T, name string, parts [][]byte, want uint16) {
	t.Helper()
	if n := cksum.Sum(parts...); n != want {
		t.Errorf("P1.1: %s: Sum is %04x, not %04x", name, n, want)
	}
	if n := cksum.Put(parts...); n != 0xffff-want {
		t.Errorf("P1.1: %s: Put is %04x, not %04x", name, n, 0xffff-want)
	}
	if is := cksum.Good(parts...); is != (want == 0xffff) {
		t.Errorf("P1.1: %s: Good is %v", name, is)
	}
}

func TestSumOfEveryNumber(t *testing.T) {
	for n := range 0x10000 {
		checkParts(t, "a number alone", [][]byte{two(uint16(n))}, uint16(n))
	}
	for _, a := range edges() {
		for _, b := range edges() {
			for _, c := range edges() {
				parts := [][]byte{two(a), two(b), two(c)}
				checkParts(t, "three numbers", parts, plainSum(parts...))
			}
		}
	}
}

func TestSumOfManyBytes(t *testing.T) {
	r := rand.New(rand.NewSource(1))
	for range 2000 {
		parts := cut(r, someBytes(r, r.Intn(60)))
		checkParts(t, "bytes", parts, plainSum(parts...))
	}
}

func TestUpdateOfANumber(t *testing.T) {
	for _, x := range []struct{ sum, from, to, want uint16 }{
		{0x220d, 0xf203, 0xf204, 0x220c},
		{0xdd2f, 0x5555, 0x3285, 0x0000},
		{0x0000, 0x0000, 0x0000, 0x0000},
		{0xffff, 0x0000, 0x0000, 0x0000},
		{0xffff, 0xffff, 0x0000, 0xffff},
		{0x0000, 0xffff, 0x0000, 0x0000},
		{0xffff, 0xffff, 0xffff, 0x0000},
		{0x0000, 0x0000, 0x0001, 0xfffe},
		{0x1234, 0x5678, 0x5678, 0x1234},
	} {
		if n := cksum.Update(x.sum, x.from, x.to); n != x.want {
			t.Errorf("P1.2: Update(%04x, %04x, %04x) is %04x, not %04x", x.sum, x.from, x.to, n, x.want)
		}
	}
	numbers := edges()
	r := rand.New(rand.NewSource(2))
	for range 20 {
		numbers = append(numbers, uint16(r.Intn(0x10000)))
	}
	for _, sum := range numbers {
		for _, from := range numbers {
			for _, to := range numbers {
				if n, want := cksum.Update(sum, from, to), plainUpdate(sum, from, to); n != want {
					t.Errorf("P1.2: Update(%04x, %04x, %04x) is %04x, not %04x", sum, from, to, n, want)
				}
			}
		}
	}
}

func TestChangeIsUpdateByUpdate(t *testing.T) {
	for _, sum := range edges() {
		if n, is := cksum.Change(sum, nil, []byte{}); n != sum || !is {
			t.Errorf("P1.2: Change of %04x by nothing: %04x %v", sum, n, is)
		}
		if n, is := cksum.Change(sum, []byte{1, 2}, []byte{3, 4}); n != cksum.Update(sum, 0x0102, 0x0304) || !is {
			t.Errorf("P1.2: Change of %04x by a number: %04x %v", sum, n, is)
		}
	}
	r := rand.New(rand.NewSource(3))
	for range 2000 {
		many := 2 * r.Intn(20)
		sum, from, to := uint16(r.Intn(0x10000)), someBytes(r, many), someBytes(r, many)
		want := sum
		for at := 0; at < many; at += 2 {
			want = plainUpdate(want, uint16(from[at])<<8|uint16(from[at+1]), uint16(to[at])<<8|uint16(to[at+1]))
		}
		if n, is := cksum.Change(sum, from, to); n != want || !is {
			t.Errorf("P1.2: Change(%04x, %x, %x): %04x %v, not %04x", sum, from, to, n, is, want)
		}
	}
}

func TestChangeRefusesWhatDoesNotPair(t *testing.T) {
	b := []byte{9, 8, 7, 6, 5, 4}
	for from := range b {
		for to := range b {
			if from == to && from%2 == 0 {
				continue
			}
			for _, sum := range edges() {
				if n, is := cksum.Change(sum, b[:from], b[:to]); n != sum || is {
					t.Errorf("P1.2: Change of %04x, %d bytes to %d: %04x %v", sum, from, to, n, is)
				}
			}
		}
	}
}

func TestSame(t *testing.T) {
	for n := range 0x10000 {
		a := uint16(n)
		if !cksum.Same(a, a) {
			t.Errorf("P1.2: %04x is not the Same as itself", a)
		}
		for _, b := range append(edges(), ^a, a+1, a^0x8000) {
			want := a == b || a == 0 && b == 0xffff || b == 0 && a == 0xffff
			if cksum.Same(a, b) != want || cksum.Same(b, a) != want {
				t.Errorf("P1.2: Same of %04x and %04x is not %v", a, b, want)
			}
		}
	}
	if !cksum.Same(0, 0xffff) || !cksum.Same(0xffff, 0) {
		t.Error("P1.2: 0 and ffff are not the Same")
	}
}

func TestTextWithItsPutIsGood(t *testing.T) {
	r := rand.New(rand.NewSource(4))
	texts := [][]byte{nil, {0, 0}, {0xff, 0xff}, {0xff, 0xff, 0, 1}, {0xff, 0xff, 0xff, 0xff}}
	for range 2000 {
		texts = append(texts, someBytes(r, 2*r.Intn(30)))
	}
	for _, text := range texts {
		put := two(cksum.Put(text))
		if !cksum.Good(text, put) || !cksum.Good(append(bytes.Clone(text), put...)) {
			t.Errorf("P1.3: %x with its Put %x is not Good", text, put)
		}
		wrong := two(cksum.Put(text) ^ 1<<r.Intn(16))
		if cksum.Good(text, wrong) {
			t.Errorf("P1.3: %x with %x is Good", text, wrong)
		}
	}
}

func TestPartsAreNotSeen(t *testing.T) {
	b := []byte{0xff, 0xfe, 3, 4, 0xff, 6, 7}
	want := cksum.Sum(b)
	for i := 0; i <= len(b); i++ {
		for j := i; j <= len(b); j++ {
			if n := cksum.Sum(b[:i], nil, b[i:j], []byte{}, b[j:]); n != want {
				t.Errorf("P1.3: parted at %d and %d: %04x, not %04x", i, j, n, want)
			}
		}
	}
	var single [][]byte
	for k := range b {
		single = append(single, b[k:k+1])
	}
	if n := cksum.Sum(single...); n != want {
		t.Errorf("P1.3: a byte a part: %04x, not %04x", n, want)
	}
}

func TestChangeOfAPutIsThePutOfTheChanged(t *testing.T) {
	r := rand.New(rand.NewSource(5))
	for range 3000 {
		ahead, many := someBytes(r, 2*r.Intn(6)), 2*r.Intn(10)
		from, to, behind := someBytes(r, many), someBytes(r, many), someBytes(r, r.Intn(12))
		if r.Intn(4) == 0 {
			ahead, to, behind = nil, make([]byte, many), nil
		}
		n, is := cksum.Change(cksum.Put(ahead, from, behind), from, to)
		if want := cksum.Put(ahead, to, behind); !is || !cksum.Same(n, want) {
			t.Errorf("P1.3: %x: %x becomes %x, %x: %04x %v, not %04x", ahead, from, to, behind, n, is, want)
		}
	}
}

func TestOrderOfTwosIsNotSeen(t *testing.T) {
	r := rand.New(rand.NewSource(6))
	for range 1000 {
		b := someBytes(r, 2*r.Intn(20))
		mixed := bytes.Clone(b)
		half := len(b) / 2
		r.Shuffle(half, func(i, j int) { mixed[2*i], mixed[2*j] = mixed[2*j], mixed[2*i] })
		r.Shuffle(half, func(i, j int) { mixed[2*i+1], mixed[2*j+1] = mixed[2*j+1], mixed[2*i+1] })
		if cksum.Sum(b) != cksum.Sum(mixed) {
			t.Errorf("P1.3: %x and %x have other sums", b, mixed)
		}
	}
	if cksum.Sum([]byte{1, 2}) == cksum.Sum([]byte{2, 1}) {
		t.Error("P1.3: a byte that changes its place of two changes nothing")
	}
}

func TestArgumentsStayAsTheyWere(t *testing.T) {
	from, to := []byte{1, 2, 3, 4}, []byte{5, 6, 7, 8}
	parts := [][]byte{from[:1], from[1:], to[:3]}
	cksum.Sum(parts...)
	cksum.Put(parts...)
	cksum.Good(parts...)
	cksum.Change(7, from, to)
	cksum.Change(7, from[:3], to[:3])
	if !bytes.Equal(from, []byte{1, 2, 3, 4}) || !bytes.Equal(to, []byte{5, 6, 7, 8}) {
		t.Error("R5: bytes were changed:", from, to)
	}
	if len(parts[0]) != 1 || len(parts[1]) != 3 || len(parts[2]) != 3 {
		t.Error("R5: the list of parts was changed:", parts)
	}
}
