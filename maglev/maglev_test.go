package maglev_test

import (
	"math"
	"math/big"
	"math/rand"
	"slices"
	"sort"
	"strconv"
	"strings"
	"sync"
	"testing"

	"outrider/api"
	"outrider/maglev"
	"outrider/sip"
)

// places is how many a table has, as the chapter says it.
const places = 251

// laid is a table that can be laid.
type laid struct {
	what string
	k    sip.Key
	l    []maglev.Backend
}

// backends makes a list of names and weights, by turns.
func backends(words ...any) []maglev.Backend {
	var l []maglev.Backend
	for at := 0; at < len(words); at += 2 {
		l = append(l, maglev.Backend{Name: words[at].(string), Weight: words[at+1].(int)})
	}
	return l
}

// row is so many backends, whose names are told in no order, and whose weights a rule says.
func row(many int, weight func(int) int) []maglev.Backend {
	var l []maglev.Backend
	for at := range many {
		l = append(l, maglev.Backend{Name: "wheel-" + strconv.Itoa(at*7%16), Weight: weight(at)})
	}
	return l
}

func all(weight int) func(int) int {
	return func(int) int { return weight }
}

func rising(at int) int {
	return 1 + 5*at%16
}

func keyOf(one byte) sip.Key {
	var k sip.Key
	for at := range k {
		k[at] = one
	}
	return k
}

func countingKey() sip.Key {
	var k sip.Key
	for at := range k {
		k[at] = byte(at)
	}
	return k
}

// one100 is a table of which the last backend has no place: the places are given away ahead of the
// turn in which it would come.
func one100() []maglev.Backend {
	return append(row(15, all(100)), maglev.Backend{Name: "small", Weight: 1})
}

func tables() []laid {
	long := strings.Repeat("n", 40)
	return []laid{
		{"one", countingKey(), backends("a", 1)},
		{"one of the greatest weight", countingKey(), backends("a", 100)},
		{"two alike", countingKey(), backends("a", 1, "b", 1)},
		{"two alike, the other way", countingKey(), backends("b", 1, "a", 1)},
		{"two unlike", countingKey(), backends("backend-1", 1, "backend-2", 2)},
		{"two unlike, the other way", countingKey(), backends("backend-2", 2, "backend-1", 1)},
		{"two with a part in common", keyOf(0), backends("a", 4, "b", 6)},
		{"100 and 1", sip.Number(1), backends("a", 100, "b", 1)},
		{"1 and 100", sip.Number(1), backends("a", 1, "b", 100)},
		{"99 and 100", sip.Number(2), backends("a", 99, "b", 100)},
		{"50, 51 and 100", sip.Number(2), backends("a", 50, "b", 51, "c", 100)},
		{"three", sip.Number(7), backends("b", 1, "a", 1, "c", 2)},
		{"three all alike", keyOf(0xff), backends("c", 3, "b", 3, "a", 3)},
		{"three primes", keyOf(0xff), backends("c", 97, "b", 89, "a", 83)},
		{"bytes of 80 and above", keyOf(0), backends("\xff", 100, "z\x00", 1, "z", 37)},
		{"a byte 0", keyOf(1), backends("\x00", 3, "\x00\x00", 2, "a\x00b", 1)},
		{"no right UTF-8", keyOf(1), backends("\xc3", 3, "\xed\xa0\x80", 2, "\ufffd", 1, "\x80", 9)},
		{"beginnings of others", keyOf(2), backends("abc", 3, "a", 2, "ab", 1, "abcd", 4)},
		{"small and great letters", keyOf(2), backends("b", 2, "B", 2, "a", 2, "A", 1)},
		{"numbers in names", keyOf(2), backends("n9", 2, "n10", 2, "n1", 2)},
		{"blanks", keyOf(3), backends(" ", 1, "  ", 2, "\n", 3)},
		{"names of 1 and of 40 bytes", keyOf(3), backends(long, 5, "n", 6, long[:39]+"m", 7, long[:39], 8)},
		{"ten alike", sip.Number(1), row(10, all(5))},
		{"fifteen, and the key turned", keyOf(0xfe), row(15, all(1))},
		{"all that may be, alike", countingKey(), row(api.MaxBackends, all(1))},
		{"all that may be, of the greatest weight", countingKey(), row(api.MaxBackends, all(100))},
		{"all that may be, unlike", keyOf(0xff), row(api.MaxBackends, rising)},
		{"one of 100, the others of 1", keyOf(9), append(row(15, all(1)), maglev.Backend{Name: "great", Weight: 100})},
		{"one of 1, the others of 100", keyOf(9), one100()},
	}
}

// some is a table by chance.
func some(r *rand.Rand) laid {
	var k sip.Key
	r.Read(k[:])
	var l []maglev.Backend
	most := []int{1, 3, 100}[r.Intn(3)]
	for len(l) < 1+r.Intn(api.MaxBackends) {
		name := make([]byte, 1+r.Intn(1+r.Intn(40)))
		r.Read(name)
		if !slices.Contains(namesOf(l), string(name)) {
			l = append(l, maglev.Backend{Name: string(name), Weight: 1 + r.Intn(most)})
		}
	}
	return laid{"some", k, l}
}

func namesOf(l []maglev.Backend) []string {
	var told []string
	for _, b := range l {
		told = append(told, b.Name)
	}
	return told
}

// plainOrder is the backends' numbers by rising names: the names are sorted, and each one sought.
func plainOrder(l []maglev.Backend) []int {
	names := namesOf(l)
	sort.Strings(names)
	var order []int
	for _, name := range names {
		order = append(order, slices.IndexFunc(l, func(b maglev.Backend) bool { return b.Name == name }))
	}
	return order
}

// plainWish is the places that a backend would have, in numbers without limits.
func plainWish(k sip.Key, name string) []int {
	first, second := sip.Two(k, name)
	a, b := new(big.Int).SetUint64(first), new(big.Int).SetUint64(second)
	step := new(big.Int).Add(new(big.Int).Mod(b, big.NewInt(250)), big.NewInt(1))
	var wish []int
	for i := range places {
		at := new(big.Int).Mul(big.NewInt(int64(i)), step)
		at.Add(at, new(big.Int).Mod(a, big.NewInt(251)))
		wish = append(wish, int(at.Mod(at, big.NewInt(251)).Int64()))
	}
	return wish
}

// plainPlaces says what P8.1 says, without credits: behind so many turns a backend has come as often
// as its share of the turns has whole ones. A place that is had is struck from all wishes.
func plainPlaces(x laid) []int {
	most := 0
	var wishes [][]int
	for _, b := range x.l {
		most = max(most, b.Weight)
		wishes = append(wishes, plainWish(x.k, b.Name))
	}
	order, whose := plainOrder(x.l), map[int]int{}
	for turn := 1; len(whose) < places; turn++ {
		for _, who := range order {
			weight := x.l[who].Weight
			if turn*weight/most == (turn-1)*weight/most || len(whose) == places {
				continue
			}
			had := wishes[who][0]
			whose[had] = who
			for at, wish := range wishes {
				wishes[at] = slices.DeleteFunc(wish, func(place int) bool { return place == had })
			}
		}
	}
	told := make([]int, places)
	for place := range told {
		told[place] = whose[place]
	}
	return told
}

// plainRing is the backends in order, each as often as its weight.
func plainRing(l []maglev.Backend) []int {
	var told []int
	for _, who := range plainOrder(l) {
		told = append(told, slices.Repeat([]int{who}, l[who].Weight)...)
	}
	return told
}

// plainFirst turns a ring till it begins at the hash, takes out who is not up, and tells who is left first.
func plainFirst(ring []int, hash uint64, up []bool) (int, bool) {
	rest := new(big.Int).SetUint64(hash)
	start := int(rest.Mod(rest, big.NewInt(int64(len(ring)))).Int64())
	turned := slices.Concat(ring[start:], ring[:start])
	turned = slices.DeleteFunc(turned, func(who int) bool { return who >= len(up) || !up[who] })
	if len(turned) == 0 {
		return -1, false
	}
	return turned[0], true
}

func lay(t *testing.T, x laid) *maglev.Table {
	t.Helper()
	table, errno := maglev.New(x.k, x.l)
	if errno != api.OK || table == nil {
		t.Fatalf("P8.1: %s: New(%x, %v): %v, %d", x.what, x.k, x.l, table, errno)
	}
	return table
}

// atAll is whose each place is, as the table tells it.
func atAll(table *maglev.Table) []int {
	var told []int
	for place := range places {
		told = append(told, table.At(place))
	}
	return told
}

// ups are lists of who is up: all, each one alone, all but one, every second one, none; some of them
// shorter or longer than the backends are many.
func ups(many int) [][]bool {
	every := slices.Repeat([]bool{true}, many)
	told := [][]bool{
		every,
		append(slices.Clone(every), true),
		append(slices.Clone(every), false, true, true),
		slices.Repeat([]bool{true}, 300),
		make([]bool, many),
		append(make([]bool, many), true),
		append(make([]bool, many), slices.Repeat([]bool{true}, 300)...),
		nil,
		{},
		{true},
		{false},
		every[:many-1],
		every[:many/2],
	}
	second := make([]bool, many)
	for who := range many {
		alone := make([]bool, many)
		alone[who] = true
		but := slices.Clone(every)
		but[who] = false
		second[who] = who%2 == 1
		told = append(told, alone, alone[:who+1], but, every[:who], every[who+1:])
	}
	return append(told, second)
}

// hashes are at the edges of a ring and of its double, and far beyond.
func hashes(long int) []uint64 {
	var told []uint64
	for n := range uint64(2*long + 3) {
		told = append(told, n)
	}
	for _, n := range []uint64{math.MaxInt32, math.MaxUint32, math.MaxInt64, math.MaxUint64} {
		for near := range uint64(5) {
			told = append(told, n-2+near)
		}
	}
	last := math.MaxUint64 - math.MaxUint64%uint64(long)
	return append(told, last-1, last, last+1)
}

func TestExamples(t *testing.T) {
	for _, k := range []sip.Key{{}, countingKey(), keyOf(0xff), sip.Number(7)} {
		x := lay(t, laid{"the example", k, backends("a", 1)})
		if x.At(0) != 0 || x.At(251) != -1 || x.Count(0) != 251 {
			t.Errorf("P8.2: At(0) %d, At(251) %d, Count(0) %d", x.At(0), x.At(251), x.Count(0))
		}
		if who, is := x.Find(5, []bool{true}); who != 0 || !is {
			t.Error("P8.3: Find(5, (true)):", who, is)
		}
		if who, is := x.Find(5, nil); who != -1 || is {
			t.Error("P8.3: Find(5, none):", who, is)
		}
	}
}

// The places, a hexadecimal digit each, were told by a reading of the chapters 7 and 8 in another
// language: so a word that was read wrongly both in the package and in the plain reading is seen.
func TestKnownPlaces(t *testing.T) {
	for _, x := range []struct {
		laid
		want string
	}{
		{laid{"three", sip.Number(7), backends("b", 1, "a", 1, "c", 2)},
			"022102202221222220012220102122210202220020122011021202102210221202110212201022120212" +
				"222120122211021222112012101202210212221022122211222200102211021220112012101222210212" +
				"20102012200102220010222122022211201220102202021220202012220102122010222210020221021"},
		{laid{"two unlike", countingKey(), backends("backend-1", 1, "backend-2", 2)},
			"011000111101110001011111100110111111001101111110011000111101110001111111100110111111" +
				"001101111110011000111100110001111111100010111111001101111110011010111100110001111111" +
				"10001011111100110111111001101011110011000111111110001011111100110111111001101011110"},
		{laid{"all that may be, unlike", keyOf(0xff), row(16, rising)},
			"34ca4562315829b3925218e3eb8b5739d5c68a3cbff5cfdf5902f34f2ffcd332799cbc6a52c6339c6b89" +
				"36eefc2381b64899678b563435662936cee58c3328c1a36c99c673316c5536b5e9e253f6cb8b6cf19693" +
				"2f67ff46ffff6ffff6c14c6865968939682c2332ce71eb9996c2836521b4524a99813bcbe2e3e721999"},
		{laid{"bytes of 80 and above", keyOf(0), backends("\xff", 100, "z\x00", 1, "z", 37)},
			"000002200020002020000200020002000200200020002002000220000100002000020002000202000020" +
				"002020200220020002000200200022000000000200002000202000020002000202020020002000200020" +
				"02000202000020002200020000020000200020002000000200020202002200200020000002000220000"},
		{laid{"100 and 1", sip.Number(1), backends("a", 100, "b", 1)},
			strings.Repeat("0", 176) + "1" + "00000000" + "1" + strings.Repeat("0", 65)},
	} {
		if len(x.want) != places {
			t.Fatalf("%s: %d places are known", x.what, len(x.want))
		}
		table, plain := lay(t, x.laid), plainPlaces(x.laid)
		for place, digit := range x.want {
			want := strings.IndexRune("0123456789abcdef", digit)
			if got := table.At(place); got != want {
				t.Errorf("P8.1: %s: At(%d): %d, not %d", x.what, place, got, want)
			}
			if plain[place] != want {
				t.Errorf("the plain reading of %s: %d is %d's, not %d's", x.what, place, plain[place], want)
			}
		}
	}
}

func checkPlaces(t *testing.T, x laid) {
	t.Helper()
	table, want := lay(t, x), plainPlaces(x)
	counts := map[int]int{}
	for place := range places {
		counts[want[place]]++
		if got := table.At(place); got != want[place] {
			t.Errorf("P8.1: %s: At(%d) of New(%x, %v): %d, not %d", x.what, place, x.k, x.l, got, want[place])
			return
		}
	}
	for who := range x.l {
		if got := table.Count(who); got != counts[who] {
			t.Errorf("P8.2: %s: Count(%d): %d, not %d", x.what, who, got, counts[who])
		}
	}
	if table.Len() != len(x.l) {
		t.Errorf("P8.2: %s: Len: %d, not %d", x.what, table.Len(), len(x.l))
	}
	if got := table.Names(); !slices.Equal(got, namesOf(x.l)) {
		t.Errorf("P8.2: %s: Names: %q, not %q", x.what, got, namesOf(x.l))
	}
}

func TestEachPlace(t *testing.T) {
	for _, x := range tables() {
		checkPlaces(t, x)
	}
}

func TestPlacesOfSome(t *testing.T) {
	r := rand.New(rand.NewSource(1))
	for range 300 {
		checkPlaces(t, some(r))
	}
}

// Every key, and every name that is not alike, has a walk of its own: a first place and a step.
func TestEachFirstPlaceAndStep(t *testing.T) {
	firsts, steps := map[int]bool{}, map[int]bool{}
	for n := range uint64(4000) {
		k := sip.Number(n)
		wish := plainWish(k, "a")
		firsts[wish[0]] = true
		steps[(wish[1]-wish[0]+places)%places] = true
		if n%8 == 0 {
			checkPlaces(t, laid{"a walk", k, backends("a", 1, "b", 1)})
		}
	}
	if len(firsts) != 251 || len(steps) != 250 || steps[0] {
		t.Error("the keys have too few walks:", len(firsts), len(steps))
	}
}

func TestRefused(t *testing.T) {
	long := strings.Repeat("n", 41)
	most := row(api.MaxBackends, all(1))
	one := maglev.Backend{Name: "one", Weight: 1}
	for what, l := range map[string][]maglev.Backend{
		"none":                           nil,
		"an empty list":                  {},
		"a list with room":               make([]maglev.Backend, 0, 8),
		"one too many":                   append(slices.Clone(most), one),
		"many too many":                  slices.Repeat([]maglev.Backend{one}, 1000),
		"one too many, and none right":   make([]maglev.Backend, api.MaxBackends+1),
		"an empty name":                  backends("", 1),
		"an empty name, the last one":    backends("a", 1, "b", 1, "", 1),
		"an empty name, in the midst":    backends("a", 1, "", 1, "b", 1),
		"a name of 41 bytes":             backends(long, 1),
		"a name of 41 bytes, the last":   backends("a", 1, long, 1),
		"41 bytes in 21 runes":           backends(strings.Repeat("\u00e9", 20)+"n", 1),
		"42 bytes in 14 runes":           backends(strings.Repeat("\u65e5", 14), 1),
		"a long name":                    backends(strings.Repeat("n", 100000), 1),
		"two the same":                   backends("a", 1, "a", 1),
		"two the same, of other weights": backends("a", 1, "a", 2),
		"two the same, apart":            backends("a", 1, "b", 1, "a", 1),
		"two the same, far apart":        append(slices.Clone(most[:15]), most[0]),
		"two the same, the last":         backends("a", 1, "b", 1, "c", 1, "c", 1),
		"three the same":                 backends("a", 1, "a", 1, "a", 1),
		"two of a byte 0":                backends("\x00", 1, "b", 1, "\x00", 1),
		"two of ff":                      backends("\xff", 1, "\xff", 1),
		"two of 40 bytes":                backends(long[1:], 1, long[1:], 1),
		"a weight 0":                     backends("a", 0),
		"a weight -1":                    backends("a", -1),
		"a weight 101":                   backends("a", 101),
		"a weight -100":                  backends("a", -100),
		"the greatest weight":            backends("a", math.MaxInt),
		"the smallest weight":            backends("a", math.MinInt),
		"a weight of 32 bits and 1":      backends("a", 1<<32+1),
		"a weight of 8 bits and 1":       backends("a", 257),
		"a weight 0, the last":           backends("a", 1, "b", 100, "c", 0),
		"a weight 101, the last":         backends("a", 1, "b", 100, "c", 101),
		"a weight 0, the first":          backends("a", 0, "b", 1),
		"an empty name and a weight 0":   backends("", 0),
		"all things amiss":               backends("", -1, "", 101, long, 0, long, 1, "a", 1, "a", 1),
		"right ones, and a zero one":     append(slices.Clone(most[:15]), maglev.Backend{}),
	} {
		for _, k := range []sip.Key{{}, countingKey()} {
			if table, errno := maglev.New(k, l); table != nil || errno != api.ErrMaglevForm {
				t.Errorf("P8.1: %s: New tells %v, %d", what, table, errno)
			}
		}
	}
}

func TestEachWeight(t *testing.T) {
	for weight := -150; weight <= 300; weight++ {
		for _, l := range [][]maglev.Backend{backends("a", weight), backends("a", 1, "b", weight), backends("a", weight, "b", 100)} {
			table, errno := maglev.New(sip.Key{}, l)
			if weight >= 1 && weight <= 100 {
				if errno != api.OK || table == nil {
					t.Errorf("P8.1: the weight %d: %v, %d", weight, table, errno)
				}
				checkPlaces(t, laid{"each weight", sip.Key{}, l})
			} else if errno != api.ErrMaglevForm || table != nil {
				t.Errorf("P8.1: the weight %d: %v, %d", weight, table, errno)
			}
		}
	}
}

func TestEachLengthOfANameAndOfAList(t *testing.T) {
	for long := range 100 {
		for _, name := range []string{strings.Repeat("n", long), strings.Repeat("\x00", long), strings.Repeat("\xff", long)} {
			for _, l := range [][]maglev.Backend{backends(name, 1), backends("other", 1, name, 1)} {
				table, errno := maglev.New(sip.Key{}, l)
				if right := long >= 1 && long <= 40; right != (errno == api.OK) || right != (table != nil) {
					t.Errorf("P8.1: a name of %d bytes: %v, %d", long, table, errno)
				}
			}
		}
	}
	for many := range 40 {
		var l []maglev.Backend
		for at := range many {
			l = append(l, maglev.Backend{Name: strconv.Itoa(at), Weight: 1 + at})
		}
		table, errno := maglev.New(sip.Key{}, l)
		if right := many >= 1 && many <= 16; right != (errno == api.OK) || right != (table != nil) {
			t.Errorf("P8.1: %d backends: %v, %d", many, table, errno)
		}
	}
}

// One byte is enough to tell two names apart, wherever it stands.
func TestNamesThatAreNearlyTheSame(t *testing.T) {
	long := strings.Repeat("n", 40)
	for at := range long {
		checkPlaces(t, laid{"one byte", countingKey(), backends(long, 3, long[:at]+"m"+long[at+1:], 2)})
	}
	for at := 1; at < len(long); at++ {
		checkPlaces(t, laid{"a beginning", countingKey(), backends(long, 3, long[:at], 2)})
	}
	checkPlaces(t, laid{"a great letter", countingKey(), backends("a", 1, "A", 1)})
	checkPlaces(t, laid{"a byte 0 behind", countingKey(), backends("a", 1, "a\x00", 1)})
	checkPlaces(t, laid{"a blank behind", countingKey(), backends("a", 1, "a ", 1)})
	checkPlaces(t, laid{"two ways to write one letter", countingKey(), backends("\u00e9", 1, "e\u0301", 1)})
	checkPlaces(t, laid{"two that are no right UTF-8", countingKey(), backends("\xff", 1, "\xfe", 1)})
}

// The order is written out here: the names as such, byte by byte, however they are told.
func TestInOrder(t *testing.T) {
	names := []string{"\x00", "\x00\x00", " ", "10", "9", "A", "B", "a", "a\x00", "a\x00b", "a ", "aa", "ab", "b", "\x7f", "\x80"}
	if len(names) != api.MaxBackends {
		t.Fatal("names:", len(names))
	}
	r := rand.New(rand.NewSource(2))
	for range 100 {
		var l []maglev.Backend
		for _, at := range r.Perm(len(names)) {
			l = append(l, maglev.Backend{Name: names[at], Weight: 1 + at%3})
		}
		table := lay(t, laid{"in order", countingKey(), l})
		every, hash := slices.Repeat([]bool{true}, len(l)), uint64(0)
		for at, name := range names {
			for range 1 + at%3 {
				who, is := table.Turn(hash, every)
				if !is || l[who].Name != name {
					t.Errorf("P8.1: in order, %d is %d of %q, not %q", hash, who, namesOf(l), name)
				}
				hash++
			}
		}
		if _, is := table.Turn(hash, every); !is || hash != 31 {
			t.Error("P8.3: the ring's length:", hash)
		}
	}
}

// Who comes first in a turn is seen in who gets the places, even where all weights are alike.
func TestTurnsAreInOrder(t *testing.T) {
	for many := 2; many <= api.MaxBackends; many++ {
		l := row(many, all(1))
		table, rest := lay(t, laid{"alike", sip.Number(3), l}), places%many
		for nth, who := range plainOrder(l) {
			want := places / many
			if nth < rest {
				want++
			}
			if got := table.Count(who); got != want {
				t.Errorf("P8.1: of %d alike the one that is %d in order has %d places, not %d", many, nth, got, want)
			}
		}
	}
}

func TestFirstTurns(t *testing.T) {
	for n := range uint64(200) {
		k := sip.Number(n)
		l := backends("b", 100, "a", 100)
		table := lay(t, laid{"first turns", k, l})
		first, second := plainWish(k, "a"), plainWish(k, "b")
		if table.At(first[0]) != 1 {
			t.Errorf("P8.1: by %x the first place of the first in order is %d's", k, table.At(first[0]))
		}
		if second[0] != first[0] && table.At(second[0]) != 0 {
			t.Errorf("P8.1: by %x the first place of the second in order is %d's", k, table.At(second[0]))
		}
		if second[0] == first[0] && table.At(second[1]) != 0 {
			t.Errorf("P8.1: by %x the second place of the second in order is %d's", k, table.At(second[1]))
		}
	}
}

// The name that a backend has, not its number, says which places it gets.
func TestToldInAnotherOrder(t *testing.T) {
	r := rand.New(rand.NewSource(3))
	cases := tables()
	for range 40 {
		cases = append(cases, some(r))
	}
	for _, x := range cases {
		table := lay(t, x)
		for range 5 {
			perm := r.Perm(len(x.l))
			var other []maglev.Backend
			var upOther []bool
			up := make([]bool, len(x.l))
			for _, who := range perm {
				up[who] = r.Intn(3) > 0
				other = append(other, x.l[who])
				upOther = append(upOther, up[who])
			}
			turned := lay(t, laid{x.what, x.k, other})
			for place := range places {
				if perm[turned.At(place)] != table.At(place) {
					t.Errorf("P8.1: %s: told in another order, %d is %q's, not %q's", x.what, place, other[turned.At(place)].Name, x.l[table.At(place)].Name)
				}
			}
			for nth, who := range perm {
				if turned.Count(nth) != table.Count(who) {
					t.Errorf("P8.2: %s: told in another order, Count is %d, not %d", x.what, turned.Count(nth), table.Count(who))
				}
			}
			for range 100 {
				hash := r.Uint64()
				who, is := table.Find(hash, up)
				if nth, isOther := turned.Find(hash, upOther); is != isOther || is && perm[nth] != who {
					t.Errorf("P8.3: %s: told in another order, Find(%x, %v): %d, %v", x.what, hash, upOther, nth, isOther)
				}
				who, is = table.Turn(hash, up)
				if nth, isOther := turned.Turn(hash, upOther); is != isOther || is && perm[nth] != who {
					t.Errorf("P8.3: %s: told in another order, Turn(%x, %v): %d, %v", x.what, hash, upOther, nth, isOther)
				}
			}
		}
	}
}

func TestAtOfOtherPlaces(t *testing.T) {
	for _, x := range tables() {
		table := lay(t, x)
		for _, place := range []int{-1, -2, -250, -251, -252, math.MinInt, math.MinInt32, 251, 252, 500, 502, 256, 1 << 16, math.MaxInt32, 1 << 32, 251 << 32, math.MaxInt - 1, math.MaxInt} {
			if got := table.At(place); got != -1 {
				t.Errorf("P8.2: %s: At(%d): %d, not -1", x.what, place, got)
			}
		}
		for _, place := range []int{0, 1, 249, 250} {
			if got := table.At(place); got < 0 || got >= len(x.l) {
				t.Errorf("P8.2: %s: At(%d): %d", x.what, place, got)
			}
		}
	}
}

func TestCount(t *testing.T) {
	for _, x := range tables() {
		table := lay(t, x)
		counts, sum := map[int]int{}, 0
		for place := range places {
			counts[table.At(place)]++
		}
		for who := range x.l {
			sum += table.Count(who)
			if got := table.Count(who); got != counts[who] {
				t.Errorf("P8.2: %s: Count(%d): %d, not %d", x.what, who, got, counts[who])
			}
		}
		if sum != 251 {
			t.Errorf("P8.2: %s: all Counts together: %d", x.what, sum)
		}
		for _, who := range []int{-1, -2, math.MinInt, len(x.l), len(x.l) + 1, api.MaxBackends, 251, 256, 1 << 32, math.MaxInt} {
			if got := table.Count(who); got != 0 {
				t.Errorf("P8.2: %s: Count(%d): %d, not 0", x.what, who, got)
			}
		}
	}
}

// Weights say how many places each has, where they come out even.
func TestCountsByWeight(t *testing.T) {
	for _, x := range []struct {
		l    []maglev.Backend
		want []int
	}{
		{backends("a", 100, "b", 1), []int{249, 2}},
		{backends("a", 1, "b", 100), []int{2, 249}},
		{backends("a", 100, "b", 100, "c", 1), []int{125, 125, 1}},
		{backends("a", 100, "b", 100, "c", 100, "d", 1), []int{84, 84, 83, 0}},
		{backends("backend-1", 1, "backend-2", 2), []int{84, 167}},
		{backends("backend-2", 2, "backend-1", 1), []int{167, 84}},
		{backends("a", 2, "b", 4), []int{84, 167}},
		{backends("a", 50, "b", 100), []int{84, 167}},
		{backends("a", 2, "b", 3), []int{100, 151}},
		{backends("a", 99, "b", 100), []int{125, 126}},
		{backends("a", 7), []int{251}},
		{backends("a", 7, "b", 7), []int{126, 125}},
		{backends("b", 7, "a", 7), []int{125, 126}},
	} {
		for n := range uint64(20) {
			table := lay(t, laid{"by weight", sip.Number(n), x.l})
			for who, want := range x.want {
				if got := table.Count(who); got != want {
					t.Errorf("P8.1: of %v %d has %d places, not %d", x.l, who, got, want)
				}
			}
		}
	}
}

func TestNamesAreTheCallersOwn(t *testing.T) {
	for _, x := range tables() {
		table, want := lay(t, x), namesOf(x.l)
		was := atAll(table)
		first, second := table.Names(), table.Names()
		for at := range first {
			first[at] = "written into"
		}
		first = append(first[:0], slices.Repeat([]string{"more"}, 20)...)
		if !slices.Equal(second, want) || !slices.Equal(table.Names(), want) {
			t.Errorf("P8.2: %s: Names, written into: %q, not %q", x.what, table.Names(), want)
		}
		if table.Len() != len(want) || !slices.Equal(atAll(table), was) {
			t.Errorf("P8.2: %s: places of Names that were written into", x.what)
		}
	}
}

func TestListIsNotKept(t *testing.T) {
	for _, x := range tables() {
		want, places := namesOf(x.l), plainPlaces(x)
		list := append(make([]maglev.Backend, 0, 40), x.l...)
		table := lay(t, laid{x.what, x.k, list})
		every := slices.Repeat([]bool{true}, len(list))
		ring := plainRing(x.l)
		if !slices.Equal(list, x.l) {
			t.Errorf("P8.1: %s: New changed what it was given", x.what)
		}
		for at := range list {
			list[at] = maglev.Backend{Name: "written into", Weight: 1 + at%2}
		}
		list = append(list, maglev.Backend{Name: "one more", Weight: 1})
		slices.Reverse(list)
		if !slices.Equal(table.Names(), want) || table.Len() != len(want) || !slices.Equal(atAll(table), places) {
			t.Errorf("P8.1: %s: New kept the list that it was given", x.what)
		}
		for hash := range uint64(len(ring)) {
			if who, _ := table.Turn(hash, every); who != ring[hash] {
				t.Errorf("P8.3: %s: Turn(%d) of a list that was written into: %d, not %d", x.what, hash, who, ring[hash])
			}
		}
	}
}

// What stands in a list's room behind its end is nothing to New, and stays.
func TestWhatStandsBehindTheList(t *testing.T) {
	for _, x := range tables() {
		long := append(slices.Clone(x.l), backends("", 0, "a", 1, "behind", 101)...)
		was := slices.Clone(long)
		table := lay(t, laid{x.what, x.k, long[:len(x.l)]})
		if table.Len() != len(x.l) || !slices.Equal(atAll(table), plainPlaces(x)) {
			t.Errorf("P8.1: %s: New took what stands behind the list", x.what)
		}
		if !slices.Equal(long, was) {
			t.Errorf("P8.1: %s: New changed what stands behind the list", x.what)
		}
	}
}

func checkFirst(t *testing.T, x laid, what string, call func(uint64, []bool) (int, bool), ring []int, hash uint64, up []bool) {
	t.Helper()
	was := slices.Clone(up)
	who, is := call(hash, up)
	if want, wantIs := plainFirst(ring, hash, up); who != want || is != wantIs {
		t.Errorf("P8.3: %s: %s(%d, %v): %d, %v, not %d, %v", x.what, what, hash, up, who, is, want, wantIs)
	}
	if !slices.Equal(up, was) {
		t.Errorf("P8.3: %s: %s changed up from %v to %v", x.what, what, was, up)
	}
}

func TestFind(t *testing.T) {
	for _, x := range tables() {
		table, want := lay(t, x), plainPlaces(x)
		for _, up := range ups(len(x.l)) {
			for _, hash := range hashes(places) {
				checkFirst(t, x, "Find", table.Find, want, hash, up)
			}
		}
	}
}

func TestTurn(t *testing.T) {
	for _, x := range tables() {
		table, ring := lay(t, x), plainRing(x.l)
		lists := ups(len(x.l))
		if len(ring) > 400 {
			lists = lists[:16]
		}
		for _, up := range lists {
			for _, hash := range hashes(len(ring)) {
				checkFirst(t, x, "Turn", table.Turn, ring, hash, up)
			}
		}
	}
}

func TestFindAndTurnOfSome(t *testing.T) {
	r := rand.New(rand.NewSource(4))
	for range 200 {
		x := some(r)
		table, want, ring := lay(t, x), plainPlaces(x), plainRing(x.l)
		for range 100 {
			up := make([]bool, r.Intn(len(x.l)+3))
			for who := range up {
				up[who] = r.Intn(3) == 0
			}
			hash := r.Uint64() >> r.Intn(64)
			checkFirst(t, x, "Find", table.Find, want, hash, up)
			checkFirst(t, x, "Turn", table.Turn, ring, hash, up)
		}
	}
}

// The answers of Turn are written out here: the ring has a twice, b once and c thrice.
func TestTurnOfThree(t *testing.T) {
	table := lay(t, laid{"three", countingKey(), backends("c", 3, "a", 2, "b", 1)})
	for _, x := range []struct {
		up   []bool
		want [6]int
	}{
		{[]bool{true, true, true}, [6]int{1, 1, 2, 0, 0, 0}},
		{[]bool{true, true, true, true}, [6]int{1, 1, 2, 0, 0, 0}},
		{[]bool{true, true, false}, [6]int{1, 1, 0, 0, 0, 0}},
		{[]bool{true, true}, [6]int{1, 1, 0, 0, 0, 0}},
		{[]bool{true, false, true}, [6]int{2, 2, 2, 0, 0, 0}},
		{[]bool{false, true, true}, [6]int{1, 1, 2, 1, 1, 1}},
		{[]bool{false, false, true}, [6]int{2, 2, 2, 2, 2, 2}},
		{[]bool{false, true}, [6]int{1, 1, 1, 1, 1, 1}},
		{[]bool{true}, [6]int{0, 0, 0, 0, 0, 0}},
		{[]bool{false}, [6]int{-1, -1, -1, -1, -1, -1}},
		{[]bool{false, false, false, true}, [6]int{-1, -1, -1, -1, -1, -1}},
		{nil, [6]int{-1, -1, -1, -1, -1, -1}},
	} {
		for hash := range uint64(20) {
			want := x.want[hash%6]
			if who, is := table.Turn(hash, x.up); who != want || is != (want >= 0) {
				t.Errorf("P8.3: Turn(%d, %v): %d, %v, not %d", hash, x.up, who, is, want)
			}
		}
		if who, _ := table.Turn(math.MaxUint64, x.up); who != x.want[3] { // 2^64 - 1 mod 6 is 3
			t.Errorf("P8.3: Turn(2^64 - 1, %v): %d, not %d", x.up, who, x.want[3])
		}
	}
}

// A place goes to its own backend where that one is up, and else past all that are down, round the end.
func TestFindGoesOnRoundTheEnd(t *testing.T) {
	for _, x := range tables() {
		table, many := lay(t, x), len(x.l)
		every, round := slices.Repeat([]bool{true}, many), 0
		for place := range places {
			own := table.At(place)
			if who, is := table.Find(uint64(place), every); !is || who != own {
				t.Errorf("P8.3: %s: Find(%d): %d, not its own %d", x.what, place, who, own)
			}
			but := slices.Clone(every)
			but[own] = false
			next := place
			for steps := 0; steps < places && table.At(next) == own; steps++ {
				next++
				if next == places {
					next = 0
					round++
				}
			}
			who, is := table.Find(uint64(place), but)
			if table.At(next) == own {
				if is || who != -1 {
					t.Errorf("P8.3: %s: Find(%d, all but the only one): %d, %v", x.what, place, who, is)
				}
			} else if !is || who != table.At(next) {
				t.Errorf("P8.3: %s: Find(%d, all but %d): %d, not %d", x.what, place, own, who, table.At(next))
			}
		}
		if last := table.At(places - 1); round == 0 || table.Count(last) == 0 {
			t.Errorf("%s: no place's way goes round the end", x.what)
		}
	}
}

func TestFindAtTheEdges(t *testing.T) {
	for _, x := range tables() {
		table := lay(t, x)
		every := slices.Repeat([]bool{true}, len(x.l))
		for _, y := range []struct {
			hash  uint64
			place int
		}{
			{0, 0},
			{250, 250},
			{251, 0},
			{252, 1},
			{501, 250},
			{502, 0},
			{1 << 32, 123},
			{1<<63 - 1, 159},
			{1 << 63, 160},
			{1<<64 - 1, 68},
			{1<<64 - 69, 0},
			{1<<64 - 70, 250},
		} {
			if who, is := table.Find(y.hash, every); !is || who != table.At(y.place) {
				t.Errorf("P8.3: %s: Find(%d): %d, not the place %d's", x.what, y.hash, who, y.place)
			}
		}
	}
}

// A backend of a small weight among greater ones may have no place: so Find never tells it, not even
// where nobody else is up. Turn does.
func TestWithoutAPlace(t *testing.T) {
	x := laid{"one of 1, the others of 100", keyOf(9), one100()}
	table, alone := lay(t, x), make([]bool, len(x.l))
	alone[15] = true
	if table.Count(15) != 0 {
		t.Fatal("P8.1: the last one has places:", table.Count(15))
	}
	for hash := range uint64(2000) {
		if who, is := table.Find(hash, alone); who != -1 || is {
			t.Errorf("P8.3: Find(%d): %d, %v", hash, who, is)
		}
		if who, is := table.Turn(hash, alone); who != 15 || !is {
			t.Errorf("P8.3: Turn(%d): %d, %v", hash, who, is)
		}
	}
}

func checkWhatFollows(t *testing.T, x laid, r *rand.Rand) {
	t.Helper()
	table, most := lay(t, x), 0
	for place := range places {
		if who := table.At(place); who < 0 || who >= len(x.l) {
			t.Errorf("P8.4: %s: the place %d is nobody's: %d", x.what, place, who)
		}
	}
	for _, b := range x.l {
		most = max(most, b.Weight)
	}
	for great, b := range x.l {
		for other := range x.l {
			if b.Weight == most && table.Count(great) < table.Count(other)-1 {
				t.Errorf("P8.4: %s: of %v %d has %d places, and %d has %d", x.what, x.l, great, table.Count(great), other, table.Count(other))
			}
		}
	}
	for range 60 {
		up := make([]bool, r.Intn(len(x.l)+4))
		somebody, placed := false, false
		for who := range up {
			up[who] = r.Intn(4) == 0
			somebody = somebody || up[who] && who < len(x.l)
			placed = placed || up[who] && table.Count(who) > 0
		}
		hash := r.Uint64()
		who, is := table.Find(hash, up)
		if is != placed || is && !up[who] || !is && who != -1 {
			t.Errorf("P8.4: %s: Find(%x, %v): %d, %v", x.what, hash, up, who, is)
		}
		who, is = table.Turn(hash, up)
		if is != somebody || is && !up[who] || !is && who != -1 {
			t.Errorf("P8.4: %s: Turn(%x, %v): %d, %v", x.what, hash, up, who, is)
		}
	}
}

func TestWhatFollows(t *testing.T) {
	r := rand.New(rand.NewSource(5))
	for _, x := range tables() {
		checkWhatFollows(t, x, r)
	}
	for range 1000 {
		checkWhatFollows(t, some(r), r)
	}
}

// Where a backend goes down, only the packets that were its own go to others.
func TestOneGoesDown(t *testing.T) {
	for _, x := range tables() {
		table := lay(t, x)
		for down := range x.l {
			every := slices.Repeat([]bool{true}, len(x.l))
			but := slices.Clone(every)
			but[down] = false
			for hash := range uint64(2000) {
				was, _ := table.Find(hash, every)
				if who, _ := table.Find(hash, but); was != down && who != was {
					t.Errorf("P8.3: %s: Find(%d) goes from %d to %d, as %d goes down", x.what, hash, was, who, down)
				}
				was, _ = table.Turn(hash, every)
				if who, _ := table.Turn(hash, but); was != down && who != was {
					t.Errorf("P8.3: %s: Turn(%d) goes from %d to %d, as %d goes down", x.what, hash, was, who, down)
				}
			}
		}
	}
}

// Other tables, and other calls between two alike ones, change no answer.
func TestAlikeAgain(t *testing.T) {
	r := rand.New(rand.NewSource(6))
	var old []*maglev.Table
	cases := tables()
	for _, x := range cases {
		old = append(old, lay(t, x))
	}
	for at, x := range cases {
		was, k := plainPlaces(x), x.k
		anew := lay(t, x)
		for range 3 {
			maglev.New(x.k, nil)
			for range 300 {
				up := make([]bool, r.Intn(len(x.l)+3))
				for who := range up {
					up[who] = r.Intn(2) == 0
				}
				hash := r.Uint64()
				for _, table := range []*maglev.Table{old[at], anew} {
					checkFirst(t, x, "Find", table.Find, was, hash, up)
					checkFirst(t, x, "Turn", table.Turn, plainRing(x.l), hash, up)
				}
			}
			for _, table := range []*maglev.Table{old[at], anew} {
				if !slices.Equal(atAll(table), was) || !slices.Equal(table.Names(), namesOf(x.l)) || table.Len() != len(x.l) {
					t.Errorf("P8.2: %s: the table is another one later", x.what)
				}
			}
		}
		if x.k != k {
			t.Errorf("P8.1: %s: New changed its key", x.what)
		}
	}
}

func TestOtherKeysOtherPlaces(t *testing.T) {
	l := backends("a", 1, "b", 1)
	was := map[string]int{}
	for n := range 300 {
		var text []byte
		for _, who := range atAll(lay(t, laid{"keys", sip.Number(uint64(n)), l})) {
			text = append(text, byte(who))
		}
		if other, ok := was[string(text)]; ok {
			t.Errorf("P8.1: the keys of %d and %d tell one table", other, n)
		}
		was[string(text)] = n
	}
}

func TestManyAtOnce(t *testing.T) {
	x := laid{"at once", keyOf(0xff), row(api.MaxBackends, rising)}
	table, want, ring := lay(t, x), plainPlaces(x), plainRing(x.l)
	up := slices.Repeat([]bool{true, false}, 8)
	var together sync.WaitGroup
	for n := range uint64(8) {
		together.Go(func() {
			for hash := range uint64(500) {
				checkFirst(t, x, "Find", table.Find, want, hash+n, up)
				checkFirst(t, x, "Turn", table.Turn, ring, hash+n, up)
			}
			if other := lay(t, x); !slices.Equal(atAll(other), want) {
				t.Error("P8.1: a table that is laid beside others is another one")
			}
		})
	}
	together.Wait()
}
