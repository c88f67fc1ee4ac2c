package dict_test

import (
	"fmt"
	"math"
	"math/rand"
	"slices"
	"strconv"
	"strings"
	"testing"

	"postrider/api"
	"postrider/dict"
	"postrider/eid"
)

func none() api.Eid { return api.Eid{} }

func dtn(node string, service string) api.Eid {
	return api.Eid{Scheme: api.Dtn, Node: node, Service: service}
}

func ipn(a int, b int) api.Eid { return api.Eid{Scheme: api.Ipn, A: a, B: b} }

// parts are numbered names that differ.
func parts(scheme int, count int) []api.Eid {
	var l []api.Eid
	for i := range count {
		if scheme == api.Dtn {
			l = append(l, dtn("n"+strconv.Itoa(i), "s"))
		} else {
			l = append(l, ipn(i+1, i))
		}
	}
	return l
}

// plainHalves are those of a right name, as chapter 6 says them.
func plainHalves(e api.Eid) []string {
	switch e.Scheme {
	case api.Dtn:
		return []string{"dtn", "//" + e.Node + "/" + e.Service}
	case api.Ipn:
		return []string{"ipn", strconv.Itoa(e.A) + "." + strconv.Itoa(e.B)}
	}
	return []string{"dtn", "none"}
}

// plainBuild are right names' dictionary and pairs, as the chapter says them: first all texts, then those not met ahead, then the places.
func plainBuild(l []api.Eid) (string, []int) {
	var all, laid []string
	var numbers, places []int
	named := false
	for _, e := range l {
		named = named || e.Scheme == api.Dtn
		all = append(all, plainHalves(e)...)
		numbers = append(numbers, e.A, e.B)
	}
	if !named {
		return "", numbers
	}
	for _, text := range all {
		if !slices.Contains(laid, text) {
			laid = append(laid, text)
		}
	}
	for _, text := range all {
		place := 0
		for _, ahead := range laid[:slices.Index(laid, text)] {
			place += len(ahead) + 1
		}
		places = append(places, place)
	}
	return strings.Join(laid, "\x00") + "\x00", places
}

// plainRead are the names of a dictionary and pairs, if they are some names': no name has the pair of another one.
func plainRead(s string, pairs []int) ([]api.Eid, bool) {
	if len(pairs)%2 != 0 || len(pairs) > 60 {
		return nil, false
	}
	var l []api.Eid
	for i := 0; i < len(pairs); i += 2 {
		text := "ipn:" + strconv.Itoa(pairs[i]) + "." + strconv.Itoa(pairs[i+1])
		if s != "" {
			text = plainAt(s, pairs[i]) + ":" + plainAt(s, pairs[i+1])
		} else if pairs[i] == 0 && pairs[i+1] == 0 {
			text = "dtn:none"
		}
		e, wrong := eid.Parse(text)
		if wrong != api.OK {
			return nil, false
		}
		l = append(l, e)
	}
	again, places := plainBuild(l)
	return l, again == s && slices.Equal(places, pairs)
}

// plainAt is what stands at a place up to a byte 0.
func plainAt(s string, at int) string {
	if at < 0 || at >= len(s) {
		return "?"
	}
	return strings.Split(s[at:], "\x00")[0]
}

// short keeps what is told of long texts and lists readable.
func short(s string) string { return strconv.Quote(s[:min(len(s), 100)]) }

func told[T any](l []T) string { return fmt.Sprint(len(l), l[:min(len(l), 12)]) }

// wantNames wants of right names their dictionary and pairs, and of these the names.
func wantNames(t *testing.T, l []api.Eid) {
	t.Helper()
	want, places := plainBuild(l)
	s, pairs, wrong := dict.Build(l)
	if s != want || !slices.Equal(pairs, places) || wrong != api.OK {
		t.Errorf("Build(%v) = %v, %v, %d; want %v, %v", told(l), short(s), told(pairs), wrong, short(want), told(places))
	}
	wantRead(t, want, places, l)
}

func wantRead(t *testing.T, s string, pairs []int, l []api.Eid) {
	t.Helper()
	if got, wrong := dict.Read(s, pairs); !slices.Equal(got, l) || wrong != api.OK {
		t.Errorf("Read(%v, %v) = %v, %d; want %v", short(s), told(pairs), told(got), wrong, told(l))
	}
}

func wantNoNames(t *testing.T, l []api.Eid, want api.Errno) {
	t.Helper()
	if s, pairs, wrong := dict.Build(l); s != "" || len(pairs) != 0 || wrong != want {
		t.Errorf("Build(%v) = %v, %v, %d; want %d", told(l), short(s), told(pairs), wrong, want)
	}
}

func wantNoRead(t *testing.T, s string, pairs ...int) {
	t.Helper()
	if l, wrong := dict.Read(s, pairs); len(l) != 0 || wrong != api.ErrDict {
		t.Errorf("Read(%v, %v) = %v, %d; want ErrDict", short(s), told(pairs), told(l), wrong)
	}
}

// wantPlain holds what is read against the chapter, right or not.
func wantPlain(t *testing.T, s string, pairs []int) {
	t.Helper()
	if l, right := plainRead(s, pairs); right {
		wantRead(t, s, pairs, l)
	} else {
		wantNoRead(t, s, pairs...)
	}
}

func wantTexts(t *testing.T, s string, want ...string) {
	t.Helper()
	if l, wrong := dict.Texts(s); !slices.Equal(l, want) || wrong != api.OK {
		t.Errorf("Texts(%v) = %q, %d; want %q", short(s), l, wrong, want)
	}
}

func wantNoTexts(t *testing.T, s string) {
	t.Helper()
	if l, wrong := dict.Texts(s); len(l) != 0 || wrong != api.ErrDict {
		t.Errorf("Texts(%v) = %v, %d; want ErrDict", short(s), told(l), wrong)
	}
}

// fewNames are some whose texts are alike.
func fewNames() []api.Eid {
	return []api.Eid{none(), dtn("a", ""), dtn("a", "b"), dtn("none", "none"), dtn("dtn", "ipn"), dtn("4.7", "4.7"), ipn(4, 7), ipn(14, 7), ipn(4, 70), ipn(999999999, 0)}
}

// allLists are all those of few names that are so long.
func allLists(length int) [][]api.Eid {
	l := [][]api.Eid{nil}
	for range length {
		var longer [][]api.Eid
		for _, ahead := range l {
			for _, e := range fewNames() {
				longer = append(longer, append(slices.Clone(ahead), e))
			}
		}
		l = longer
	}
	return l
}

// longLists are at the edges of how many names there may be, and how long these are.
func longLists() [][]api.Eid {
	a, b := strings.Repeat("z", 20), strings.Repeat("/", 20)
	return [][]api.Eid{
		slices.Repeat([]api.Eid{none()}, 30),
		slices.Repeat([]api.Eid{ipn(4, 7)}, 30),
		slices.Repeat([]api.Eid{dtn(a, b)}, 30),
		parts(api.Ipn, 29), parts(api.Ipn, 30),
		parts(api.Dtn, 29), parts(api.Dtn, 30),
		append(parts(api.Ipn, 29), dtn("a", "")),
		append([]api.Eid{dtn("a", "")}, parts(api.Ipn, 29)...),
		slices.Concat(parts(api.Dtn, 15), parts(api.Ipn, 14), []api.Eid{none()}),
		{dtn(a, b), dtn(a, ""), dtn(a, b[:19]), dtn(a[:19], b), ipn(999999999, 999999999), ipn(1, 0)},
	}
}

// randomLists have names in them that stand there more than once.
func randomLists(count int) [][]api.Eid {
	r := rand.New(rand.NewSource(7))
	var l [][]api.Eid
	for range count {
		pool := slices.Concat(fewNames(), parts(api.Dtn, r.Intn(20)), parts(api.Ipn, r.Intn(20)))
		if r.Intn(3) == 0 {
			pool = append(parts(api.Ipn, 5), none())
		}
		var names []api.Eid
		for range r.Intn(31) {
			names = append(names, pool[r.Intn(len(pool))])
		}
		l = append(l, names)
	}
	return l
}

// wrongNames are of no endpoint.
func wrongNames() []api.Eid {
	return []api.Eid{
		{Scheme: -1}, {Scheme: 3}, {Scheme: math.MaxInt}, {Scheme: math.MinInt}, {A: 1}, {B: 7}, {Node: "a"}, {Service: "a"},
		dtn("", ""), dtn("", "a"), dtn("A", ""), dtn("a/b", ""), dtn("a\x00", "b"), dtn("a", "b\x00"), dtn("a", "\x00"), dtn("a", "\xff"), dtn(strings.Repeat("a", 21), ""), dtn("a", strings.Repeat("a", 21)),
		{Scheme: api.Dtn, Node: "a", A: 1}, {Scheme: api.Dtn, Node: "a", B: 1},
		ipn(0, 0), ipn(0, 7), ipn(-1, 0), ipn(4, -1), ipn(1000000000, 0), ipn(4, 1000000000), ipn(math.MaxInt, math.MinInt), {Scheme: api.Ipn, A: 4, Node: "a"}, {Scheme: api.Ipn, A: 4, Service: "a"},
	}
}

// P7.1: what the chapter's table says.
func TestExamples(t *testing.T) {
	a, b := []api.Eid{ipn(4, 7), none()}, []api.Eid{dtn("a", "b"), none(), dtn("a", "b")}
	wantNames(t, a)
	wantNames(t, b)
	wantRead(t, "", []int{4, 7, 0, 0}, a)
	wantRead(t, "dtn\x00//a/b\x00none\x00", []int{0, 4, 0, 10, 0, 4}, b)
}

// P7.1, P7.3
func TestNames(t *testing.T) {
	wantNames(t, nil)
	wantNames(t, []api.Eid{})
	for length := range 4 {
		for _, l := range allLists(length) {
			wantNames(t, l)
		}
	}
	for _, l := range slices.Concat(longLists(), randomLists(5000)) {
		wantNames(t, l)
	}
}

// P7.1: one name of Dtn, wherever it stands, gives all the others texts.
func TestOneOfDtn(t *testing.T) {
	others := append(parts(api.Ipn, 3), none())
	wantRead(t, "", []int{1, 0, 2, 1, 3, 2, 0, 0}, others)
	for i := range len(others) + 1 {
		wantNames(t, slices.Insert(slices.Clone(others), i, dtn("a", "")))
	}
	wantRead(t, "ipn\x001.0\x002.1\x003.2\x00dtn\x00none\x00//a/\x00", []int{0, 4, 0, 8, 0, 12, 16, 20, 16, 25}, append(others, dtn("a", "")))
}

// P7.1: a text is met as a whole alone, not as a piece of one that stands there.
func TestWholeTexts(t *testing.T) {
	l := []api.Eid{dtn("a", "/b"), dtn("a", ""), dtn("a", "/"), ipn(14, 7), ipn(4, 7), ipn(4, 70), ipn(14, 70)}
	wantNames(t, l)
	wantRead(t, "dtn\x00//a//b\x00//a/\x00//a//\x00ipn\x0014.7\x004.7\x004.70\x0014.70\x00", []int{0, 4, 0, 11, 0, 16, 22, 26, 22, 31, 22, 35, 22, 40}, l)
}

// P7.1: more than 30 names are told first.
func TestTooManyNames(t *testing.T) {
	for _, n := range []int{31, 32, 60, 61, 1000} {
		wantNoNames(t, make([]api.Eid, n), api.ErrMany)
		wantNoNames(t, parts(api.Dtn, n), api.ErrMany)
		wantNoNames(t, parts(api.Ipn, n), api.ErrMany)
		wantNoNames(t, slices.Repeat([]api.Eid{dtn("a", "b")}, n), api.ErrMany)
		for _, e := range wrongNames() {
			wantNoNames(t, slices.Repeat([]api.Eid{e}, n), api.ErrMany)
			wantNoNames(t, append(make([]api.Eid, n-1), e), api.ErrMany)
		}
	}
}

// P7.1: one wrong name, wherever it stands.
func TestWrongNames(t *testing.T) {
	for _, e := range wrongNames() {
		wantNoNames(t, []api.Eid{e}, api.ErrEid)
		wantNoNames(t, slices.Repeat([]api.Eid{e}, 30), api.ErrEid)
		for _, l := range [][]api.Eid{fewNames(), parts(api.Ipn, 29), parts(api.Dtn, 29), make([]api.Eid, 29)} {
			for i := range len(l) + 1 {
				wantNoNames(t, slices.Insert(slices.Clone(l), i, e), api.ErrEid)
			}
		}
	}
}

// P7.1: without a dictionary a pair are a name's own numbers.
func TestReadNumbers(t *testing.T) {
	edges := []int{math.MinInt, math.MinInt + 1, -1 << 32, -1000000000, -999999999, -2, -1, 0, 1, 2, 4, 7, 99, 100, 999999998, 999999999, 1000000000, 1000000001, 1 << 32, 1<<32 + 1, math.MaxInt}
	for _, a := range edges {
		wantNoRead(t, "", a)
		wantNoRead(t, "", 4, 7, a)
		for _, b := range edges {
			wantPlain(t, "", []int{a, b})
			wantPlain(t, "", []int{4, 7, a, b})
			wantPlain(t, "", []int{a, b, 0, 0})
		}
	}
}

// P7.1: with a dictionary a pair are places.
func TestReadPlaces(t *testing.T) {
	s := "dtn\x00//a/b\x00none\x00ipn\x0014.7\x004.7\x00"
	pairs := []int{0, 4, 0, 10, 15, 19, 15, 24}
	wantRead(t, s, pairs, []api.Eid{dtn("a", "b"), none(), ipn(14, 7), ipn(4, 7)})
	edges := []int{math.MinInt, math.MinInt + 1, -1 << 32, math.MaxInt, math.MaxInt - 1, 1 << 32, 1<<32 + 4, 1<<31 - 1}
	for at := -2; at < len(s)+3; at++ {
		edges = append(edges, at)
	}
	for i := range pairs {
		for _, at := range edges {
			other := slices.Clone(pairs)
			other[i] = at
			wantPlain(t, s, other)
			wantPlain(t, s, append(slices.Clone(pairs), 0, at))
			wantPlain(t, s, append(slices.Clone(pairs), at, 24))
		}
	}
}

// P7.1: names may be told again, but not left out, nor in another order, nor halves alone.
func TestReadOtherPairs(t *testing.T) {
	s, pairs := "dtn\x00//a/b\x00none\x00ipn\x004.7\x00", []int{0, 4, 0, 10, 15, 19}
	wantRead(t, s, pairs, []api.Eid{dtn("a", "b"), none(), ipn(4, 7)})
	wantRead(t, s, []int{0, 4, 0, 4, 0, 10, 0, 4, 15, 19, 0, 10}, []api.Eid{dtn("a", "b"), dtn("a", "b"), none(), dtn("a", "b"), ipn(4, 7), none()})
	wantNoRead(t, s)
	for i := range pairs {
		wantNoRead(t, s, pairs[:i]...)
		wantNoRead(t, s, pairs[i+1:]...)
		wantNoRead(t, s, slices.Delete(slices.Clone(pairs), i, i+1)...)
		for j := range pairs {
			other := slices.Clone(pairs)
			other[i], other[j] = other[j], other[i]
			wantPlain(t, s, other)
		}
	}
	wantNoRead(t, s, 0, 10, 0, 4, 15, 19)
	wantNoRead(t, s, 15, 19, 0, 4, 0, 10)
	wantNoRead(t, "none\x00dtn\x00//a/b\x00", 5, 0, 5, 9)
	wantNoRead(t, "//a/b\x00dtn\x00", 6, 0)
}

// P7.1: a dictionary with a text too many, too few, or twice.
func TestReadOtherTexts(t *testing.T) {
	for _, s := range []string{"a", "\x00", "\x00\x00", "dtn\x00", "dtn", "a\x00", "none\x00", "//a/b\x00"} {
		wantNoRead(t, s)
		wantNoRead(t, s, 0, 0)
		wantNoRead(t, s, 4, 7)
	}
	// Without a name of Dtn there is no dictionary.
	wantNoRead(t, "dtn\x00none\x00", 0, 4)
	wantNoRead(t, "ipn\x004.7\x00", 0, 4)
	wantNoRead(t, "ipn\x004.7\x00dtn\x00none\x00", 0, 4, 8, 12)
	wantNoRead(t, "ipn\x004.7\x00", 4, 7)
	wantRead(t, "dtn\x00//a/b\x00", []int{0, 4}, []api.Eid{dtn("a", "b")})
	wantNoRead(t, "dtn\x00//a/b", 0, 4)
	wantNoRead(t, "dtn\x00//a/b\x00\x00", 0, 4)
	wantNoRead(t, "\x00dtn\x00//a/b\x00", 1, 5)
	wantNoRead(t, "dtn\x00\x00//a/b\x00", 0, 5)
	wantNoRead(t, "dtn\x00//a/b\x00none\x00", 0, 4)
	wantNoRead(t, "dtn\x00//a/b\x00//a/b\x00", 0, 4)
	wantNoRead(t, "dtn\x00//a/b\x00//a/b\x00", 0, 4, 0, 10)
	wantNoRead(t, "dtn\x00//a/b\x00dtn\x00", 0, 4)
	wantNoRead(t, "dtn\x00//a/b\x00dtn\x00none\x00", 0, 4, 10, 14)
	wantNoRead(t, "dtn\x00//a/b\x00dtn\x00none\x00", 0, 4, 0, 14)
	// No right name has such halves.
	wantNoRead(t, "dtn\x00//A/b\x00", 0, 4)
	wantNoRead(t, "dtn\x00///b\x00", 0, 4)
	wantNoRead(t, "dtn\x00//a/b\x00ipn\x0004.7\x00", 0, 4, 10, 14)
	wantNoRead(t, "dtn\x00//a/b\x00ipn\x00none\x00", 0, 4, 10, 14)
	wantNoRead(t, "dtn\x00//a/b\x004.7\x00", 0, 4, 0, 10)
	wantNoRead(t, "http\x00//a/b\x00", 0, 5)
	wantNoRead(t, "dtn\x00//a/b\x00http\x00//c/d\x00", 0, 4, 10, 15)
}

// P7.1: how many names a dictionary is of.
func TestReadTooMany(t *testing.T) {
	for _, n := range []int{1, 29, 30, 31, 32, 1000} {
		for _, x := range []struct {
			s    string
			pair []int
			e    api.Eid
		}{{"", []int{4, 7}, ipn(4, 7)}, {"", []int{0, 0}, none()}, {"dtn\x00//a/b\x00", []int{0, 4}, dtn("a", "b")}} {
			pairs := slices.Repeat(x.pair, n)
			if n > 30 {
				wantNoRead(t, x.s, pairs...)
			} else {
				wantRead(t, x.s, pairs, slices.Repeat([]api.Eid{x.e}, n))
			}
			wantNoRead(t, x.s, append(pairs, x.pair[0])...)
		}
		for _, scheme := range []int{api.Dtn, api.Ipn} {
			wantPlain(t, "", slices.Repeat([]int{scheme, 7}, n))
			s, pairs := plainBuild(parts(scheme, n))
			wantPlain(t, s, pairs)
		}
	}
}

// P7.1: whatever byte is put into a dictionary, taken out, or another one, and whatever place is.
func TestReadChanged(t *testing.T) {
	seeds := [][]api.Eid{
		{dtn("a", "b")}, {dtn("a", "")}, {none(), dtn("a", "/")}, {ipn(4, 7), dtn("a", "b"), none()},
		{dtn("a", "b"), ipn(14, 7), ipn(4, 7)}, {dtn("a", ""), dtn("b", ""), dtn("a", "")}, {none(), ipn(1, 1), dtn("none", "ipn"), ipn(1, 0)},
	}
	for _, l := range seeds {
		s, pairs := plainBuild(l)
		for i := range len(s) + 1 {
			wantPlain(t, s[:i], pairs)
			wantPlain(t, s[i:], pairs)
			for b := range 256 {
				c := string([]byte{byte(b)})
				wantPlain(t, s[:i]+c+s[i:], pairs)
				if i < len(s) {
					wantPlain(t, s[:i]+c+s[i+1:], pairs)
				}
			}
			for j := i; j <= len(s); j++ {
				wantPlain(t, s[:i]+s[j:], pairs)
				wantPlain(t, s[:j]+s[i:], pairs)
			}
		}
		for i := range pairs {
			for at := -1; at <= len(s)+1; at++ {
				other := slices.Clone(pairs)
				other[i] = at
				wantPlain(t, s, other)
				wantPlain(t, "", other)
				wantPlain(t, s, slices.Insert(slices.Clone(pairs), i, at))
				wantPlain(t, s, slices.Insert(slices.Clone(pairs), i, at, pairs[i]))
			}
		}
	}
}

// P7.1: whatever texts stand in a dictionary, and whatever pairs come with it.
func TestReadPieces(t *testing.T) {
	pieces := []string{"dtn", "ipn", "none", "//a/", "4.7", "", "x"}
	dicts := []string{""}
	for from, steps := 0, 4; steps > 0; steps-- {
		to := len(dicts)
		for _, s := range dicts[from:to] {
			for _, p := range pieces {
				dicts = append(dicts, s+p+"\x00")
			}
		}
		from = to
	}
	for _, s := range dicts {
		starts := []int{}
		for at := range len(s) {
			if at == 0 || s[at-1] == 0 {
				starts = append(starts, at)
			}
		}
		for _, a := range starts {
			for _, b := range starts {
				wantPlain(t, s, []int{a, b})
				for _, c := range starts {
					for _, d := range starts {
						wantPlain(t, s, []int{a, b, c, d})
					}
				}
			}
		}
	}
}

// P7.2
func TestTexts(t *testing.T) {
	wantTexts(t, "")
	wantTexts(t, "\x00", "")
	wantTexts(t, "\x00\x00\x00", "", "", "")
	wantTexts(t, "a\x00", "a")
	wantTexts(t, "\x00a\x00", "", "a")
	wantTexts(t, "a\x00a\x00", "a", "a")
	wantTexts(t, "dtn\x00//a/b\x00none\x00", "dtn", "//a/b", "none")
	wantTexts(t, "\xff\xfe\x00\x01\x00\xc3\xa4 \n\x00", "\xff\xfe", "\x01", "\xc3\xa4 \n")
	for _, n := range []int{60, 61, 1000, 100000} {
		wantTexts(t, strings.Repeat("a\x00", n), slices.Repeat([]string{"a"}, n)...)
		wantTexts(t, strings.Repeat("a", n)+"\x00", strings.Repeat("a", n))
	}
	var all []string
	for b := 1; b < 256; b++ {
		all = append(all, string([]byte{byte(b)}))
	}
	wantTexts(t, strings.Join(all, "\x00")+"\x00", all...)
}

// P7.2: the last byte is 0.
func TestNoTexts(t *testing.T) {
	for b := 1; b < 256; b++ {
		s := string([]byte{byte(b)})
		wantNoTexts(t, s)
		wantNoTexts(t, "\x00"+s)
		wantNoTexts(t, "a\x00"+s)
		wantNoTexts(t, "dtn\x00//a/b\x00"+s)
	}
	wantNoTexts(t, "dtn\x00//a/b")
	wantNoTexts(t, strings.Repeat("a\x00", 100000)+"a")
	wantNoTexts(t, strings.Repeat("a", 100000))
}

// P7.3: names are read of their dictionary, in which no text stands twice; without names of Dtn it is empty.
func TestThereAndBack(t *testing.T) {
	for _, l := range slices.Concat(allLists(2), allLists(3), longLists(), randomLists(5000)) {
		s, pairs, wrong := dict.Build(l)
		if wrong != api.OK {
			t.Errorf("Build(%v): %d", told(l), wrong)
		}
		wantRead(t, s, pairs, l)
		texts, wrong := dict.Texts(s)
		if wrong != api.OK {
			t.Errorf("Texts(%v): %d", short(s), wrong)
		}
		slices.Sort(texts)
		if len(slices.Compact(slices.Clone(texts))) != len(texts) {
			t.Errorf("Build(%v) = %v: a text stands there twice", told(l), short(s))
		}
		if named := slices.ContainsFunc(l, func(e api.Eid) bool { return e.Scheme == api.Dtn }); named == (s == "") {
			t.Errorf("Build(%v) = %v", told(l), short(s))
		}
	}
}

// R1: much of anything is refused too.
func TestMuch(t *testing.T) {
	for _, c := range []string{"\x00", "a", "a\x00", "dtn\x00", "dtn\x00//a/b\x00", "\xff"} {
		s := strings.Repeat(c, 1<<20)
		wantNoRead(t, s)
		wantNoRead(t, s, slices.Repeat([]int{0, 4}, 30)...)
		wantNoRead(t, s, len(s)-1, len(s))
		wantNoRead(t, "dtn\x00//a/b\x00"+s, 0, 4)
		wantNoRead(t, s+"dtn\x00//a/b\x00", len(s), len(s)+4)
		wantNoNames(t, []api.Eid{dtn(s, s)}, api.ErrEid)
	}
	wantNoRead(t, "", make([]int, 1<<20)...)
	wantNoNames(t, make([]api.Eid, 1<<20), api.ErrMany)
}

// R3: what is handed in is not written into, nor its spare room, nor kept.
func TestHandedIn(t *testing.T) {
	l := append(make([]api.Eid, 0, 40), dtn("a", "b"), none(), ipn(4, 7))
	pairs := append(make([]int, 0, 90), 0, 4, 0, 10, 15, 19)
	s, got, _ := dict.Build(l)
	names, _ := dict.Read(s, pairs)
	if !slices.Equal(l[:5], []api.Eid{dtn("a", "b"), none(), ipn(4, 7), {}, {}}) || !slices.Equal(pairs[:8], []int{0, 4, 0, 10, 15, 19, 0, 0}) {
		t.Errorf("handed in was %v, %v", l[:5], pairs[:8])
	}
	clear(l)
	clear(pairs)
	if !slices.Equal(got, []int{0, 4, 0, 10, 15, 19}) || !slices.Equal(names, []api.Eid{dtn("a", "b"), none(), ipn(4, 7)}) {
		t.Errorf("answered was %v, %v", got, names)
	}
}

// R3: what is answered is new memory each time.
func TestAnswered(t *testing.T) {
	for _, l := range [][]api.Eid{{ipn(4, 7), none()}, {dtn("a", "b"), none(), dtn("a", "b")}} {
		s, pairs := plainBuild(l)
		for range 3 {
			_, places, _ := dict.Build(l)
			names, _ := dict.Read(s, pairs)
			texts, _ := dict.Texts(s)
			clear(places[:cap(places)])
			clear(names[:cap(names)])
			clear(texts[:cap(texts)])
			wantNames(t, l)
		}
	}
	wantTexts(t, "dtn\x00//a/b\x00", "dtn", "//a/b")
}

// R4: calls leave nothing behind that another one could tell.
func TestKeepsNothing(t *testing.T) {
	for _, e := range wrongNames() {
		wantNoNames(t, []api.Eid{dtn("a", "b"), e}, api.ErrEid)
		wantNoRead(t, "dtn\x00//c/d\x00", 0, 5)
		wantNames(t, []api.Eid{ipn(4, 7), none()})
		wantNames(t, []api.Eid{dtn("c", "d"), dtn("a", "b")})
	}
}
