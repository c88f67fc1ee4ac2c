package route_test

import (
	"fmt"
	"math"
	"math/rand"
	"regexp"
	"slices"
	"strconv"
	"strings"
	"testing"

	"postrider/api"
	"postrider/route"
)

func none() api.Eid { return api.Eid{} }

func dtn(node string, service string) api.Eid {
	return api.Eid{Scheme: api.Dtn, Node: node, Service: service}
}

func ipn(a int, b int) api.Eid { return api.Eid{Scheme: api.Ipn, A: a, B: b} }

// to is a route.
func to(side int, prefix string) api.Route { return api.Route{Prefix: prefix, Side: side} }

func routes(l ...api.Route) []api.Route { return l }

func names(l ...api.Eid) []api.Eid { return l }

// rightNames are ordinary ones, and those at the edges.
func rightNames() []api.Eid {
	return names(
		none(), dtn("none", ""), dtn("a", "b"), dtn("a", "bc"), dtn("a", ""), dtn("earth", "news"), dtn("a", "//"), dtn("4.7", "4.7"),
		dtn(strings.Repeat("a", 20), strings.Repeat("/", 20)), dtn("-", "."), ipn(4, 7), ipn(42, 0), ipn(1, 0), ipn(4, 77), ipn(999999999, 999999999),
	)
}

func wrongNames() []api.Eid {
	return names(
		api.Eid{Scheme: 3}, api.Eid{Scheme: -1}, api.Eid{Scheme: 257, Node: "a"}, api.Eid{Node: "a"}, api.Eid{A: 1}, api.Eid{B: 1}, api.Eid{Service: "a"},
		dtn("", ""), dtn("", "a"), dtn("A", ""), dtn("a/b", ""), dtn("a", "b c"), dtn(strings.Repeat("a", 21), ""), dtn("a", strings.Repeat("a", 21)), dtn("\xff", ""),
		ipn(0, 0), ipn(0, 1), ipn(-4, 7), ipn(4, -7), ipn(1000000000, 0), ipn(1, 1000000000), ipn(math.MinInt, math.MaxInt),
		api.Eid{Scheme: api.Ipn, A: 4, Node: "a"}, api.Eid{Scheme: api.Dtn, Node: "a", B: 7},
	)
}

// far are numbers that are never right sides, some of which have a right one's lowest bits.
func far() []int {
	l := []int{math.MinInt, math.MinInt + 6, math.MinInt + 7, -1 << 32, -256 + 6, -256 + 7, -7, -6, 1<<8 + 6, 1<<8 + 7, 1<<32 + 6, 1<<32 + 7, 67, 76, math.MaxInt}
	for n := -2; n <= 20; n++ {
		if n != 6 && n != 7 {
			l = append(l, n)
		}
	}
	return l
}

// rightName is the pattern of a right name's text, as chapter 6 says it.
var rightName = regexp.MustCompile(`\A(?:dtn:none|dtn://[a-z0-9.-]{1,20}/[a-z0-9./-]{0,20}|ipn:[1-9][0-9]{0,8}\.(?:0|[1-9][0-9]{0,8}))\z`)

func plainText(e api.Eid) string {
	switch e {
	case dtn(e.Node, e.Service):
		return "dtn://" + e.Node + "/" + e.Service
	case ipn(e.A, e.B):
		return "ipn:" + strconv.Itoa(e.A) + "." + strconv.Itoa(e.B)
	case none():
		return "dtn:none"
	}
	return "no name"
}

// plainRightName looks for a slash in the node, too, which in the text would end it.
func plainRightName(e api.Eid) bool {
	return rightName.MatchString(plainText(e)) && !strings.Contains(e.Node, "/")
}

func plainRight(l []api.Route) bool {
	for _, r := range l {
		if len(r.Prefix) > 60 || r.Side != 6 && r.Side != 7 {
			return false
		}
	}
	return len(l) <= 20
}

// begins tells whether a text begins another one, byte by byte.
func begins(text string, other string) bool {
	for i := range len(text) {
		if i == len(other) || text[i] != other[i] {
			return false
		}
	}
	return true
}

func plainAll(l []api.Route, dest api.Eid) ([]int, api.Errno) {
	if !plainRight(l) {
		return nil, api.ErrRoutes
	}
	if !plainRightName(dest) {
		return nil, api.ErrEid
	}
	var places []int
	for length := 60; length >= 0; length-- {
		for place, r := range l {
			if len(r.Prefix) == length && begins(r.Prefix, plainText(dest)) {
				places = append(places, place)
			}
		}
	}
	return places, api.OK
}

func plainRightPolicy(p api.Policy) bool {
	for _, text := range p.Deny {
		if len(text) < 1 || len(text) > 60 {
			return false
		}
	}
	return p.MaxSize >= 0 && p.MaxLife >= 0 && len(p.Deny) <= 20
}

// asking is a bundle that asks to pass.
type asking struct {
	size    int
	life    int
	custody bool
	names   []api.Eid
}

func plainPass(p api.Policy, a asking) api.Errno {
	if !plainRightPolicy(p) {
		return api.ErrRoutes
	}
	denied := false
	for _, e := range a.names {
		if !plainRightName(e) {
			return api.ErrEid
		}
		for _, text := range p.Deny {
			denied = denied || begins(text, plainText(e))
		}
	}
	switch {
	case denied:
		return api.ErrDenied
	case a.size > p.MaxSize:
		return api.ErrSize
	case a.life > p.MaxLife:
		return api.ErrLife
	case a.custody && !p.Custody:
		return api.ErrNoCustody
	}
	return api.OK
}

// short is how a value is told, cut if it is very long.
func short(x any) string {
	text := fmt.Sprintf("%#v", x)
	return text[:min(len(text), 600)]
}

func wantRight(t *testing.T, l []api.Route, want bool) {
	t.Helper()
	if got := route.Right(l); got != want {
		t.Errorf("Right(%s): %t", short(l), got)
	}
}

// wantAll wants answers of All, and those of Find that go with them.
func wantAll(t *testing.T, l []api.Route, dest api.Eid, want []int, wrong api.Errno) {
	t.Helper()
	places, e := route.All(l, dest)
	if !slices.Equal(places, want) || e != wrong {
		t.Errorf("All(%s, %+v): %v %d; wanted %v %d", short(l), dest, places, e, want, wrong)
	}
	first, found := 0, len(want) > 0
	if found {
		first = want[0]
	}
	if at, ok, e := route.Find(l, dest); at != first || ok != found || e != wrong {
		t.Errorf("Find(%s, %+v): %d %t %d; wanted %d %t %d", short(l), dest, at, ok, e, first, found, wrong)
	}
}

func wantNone(t *testing.T, l []api.Route, dest api.Eid, wrong api.Errno) {
	t.Helper()
	wantAll(t, l, dest, nil, wrong)
}

// wantPlain wants what the reference answers.
func wantPlain(t *testing.T, l []api.Route, dest api.Eid) []int {
	t.Helper()
	wantRight(t, l, plainRight(l))
	want, wrong := plainAll(l, dest)
	wantAll(t, l, dest, want, wrong)
	return want
}

func wantPolicy(t *testing.T, p api.Policy, want bool) {
	t.Helper()
	if got := route.RightPolicy(p); got != want {
		t.Errorf("RightPolicy(%s): %t", short(p), got)
	}
	wrong := api.OK
	if !want {
		wrong = api.ErrRoutes
	}
	wantPass(t, p, asking{}, wrong)
}

func wantPass(t *testing.T, p api.Policy, a asking, wrong api.Errno) {
	t.Helper()
	if e := route.Pass(p, a.size, a.life, a.custody, a.names); e != wrong {
		t.Errorf("Pass(%s, %s): %d; wanted %d", short(p), short(a), e, wrong)
	}
}

func wantPlainPass(t *testing.T, p api.Policy, a asking) api.Errno {
	t.Helper()
	wantPolicy(t, p, plainRightPolicy(p))
	wrong := plainPass(p, a)
	wantPass(t, p, a, wrong)
	return wrong
}

func TestExamples(t *testing.T) {
	l := routes(to(6, "ipn:4"), to(7, "ipn:4."), to(6, ""))
	wantAll(t, l, ipn(4, 7), []int{1, 0, 2}, api.OK)
	wantAll(t, l, ipn(42, 0), []int{0, 2}, api.OK)
	wantAll(t, l, none(), []int{2}, api.OK)
	wantAll(t, l[:2], ipn(4, 7), []int{1, 0}, api.OK)
	wantAll(t, l[:2], ipn(42, 0), []int{0}, api.OK)
	wantNone(t, l[:2], none(), api.OK)
}

// P16.1: how many routes there are.
func TestRightCount(t *testing.T) {
	wantRight(t, nil, true)
	for count := range 25 {
		for _, r := range routes(to(6, ""), to(7, "ipn:4"), to(7, strings.Repeat("a", 60))) {
			wantRight(t, slices.Repeat(routes(r), count), count <= 20)
		}
	}
	for _, count := range []int{1 << 8, 1<<8 + 20, 1 << 16, 1 << 20} {
		wantRight(t, slices.Repeat(routes(to(6, "")), count), false)
	}
}

// P16.1: what one route is, at each place of one that is wrong.
func TestRightRoute(t *testing.T) {
	var wrong []api.Route
	for _, side := range far() {
		wrong = append(wrong, to(side, ""), to(side, "ipn:4."), to(side, strings.Repeat("a", 61)))
	}
	for _, side := range []int{6, 7} {
		for n := range 64 {
			for _, letter := range []string{"a", "\x00", "\xff", "/"} {
				r := to(side, strings.Repeat(letter, n))
				wantRight(t, routes(r), n <= 60)
				if n > 60 {
					wrong = append(wrong, r)
				}
			}
		}
		wrong = append(wrong, to(side, strings.Repeat("a", 1<<8)), to(side, strings.Repeat("a", 1<<16)))
		// Bytes are counted, not runes.
		wantRight(t, routes(to(side, strings.Repeat("\u00e9", 30))), true)
		wantRight(t, routes(to(side, strings.Repeat("\u00e9", 31))), false)
		wantRight(t, routes(to(side, strings.Repeat("\u20ac", 20))), true)
		wantRight(t, routes(to(side, strings.Repeat("\u20ac", 21))), false)
	}
	for _, r := range wrong {
		for count := 1; count <= 20; count++ {
			l := slices.Repeat(routes(to(6, "")), count)
			for _, place := range []int{0, count / 2, count - 1} {
				one := slices.Clone(l)
				one[place] = r
				wantRight(t, one, false)
				wantNone(t, one, none(), api.ErrRoutes)
			}
		}
	}
}

// P16.1: routes that are wrong are told of ahead of a wrong name.
func TestWhichErrorOfAll(t *testing.T) {
	wrong := [][]api.Route{routes(to(5, "")), routes(to(6, ""), to(0, "a")), routes(to(7, strings.Repeat("a", 61))), slices.Repeat(routes(to(6, "")), 21)}
	right := [][]api.Route{nil, routes(to(6, "")), routes(to(7, "dtn:none"), to(6, "ipn:")), slices.Repeat(routes(to(6, "")), 20)}
	for _, e := range append(wrongNames(), rightNames()...) {
		for _, l := range wrong {
			wantNone(t, l, e, api.ErrRoutes)
		}
	}
	for _, e := range wrongNames() {
		for _, l := range right {
			wantNone(t, l, e, api.ErrEid)
		}
	}
	for _, e := range rightNames() {
		for _, l := range right {
			wantPlain(t, l, e)
		}
	}
}

// P16.1: a route matches a name if its Prefix begins the whole text, byte by byte.
func TestMatches(t *testing.T) {
	for _, e := range rightNames() {
		text := plainText(e)
		for n := range len(text) + 1 {
			wantAll(t, routes(to(6, text[:n])), e, []int{0}, api.OK)
			for _, more := range []string{"a", "0", "\x00", "\xff", " "} {
				if n < len(text) && text[n] == more[0] {
					continue
				}
				wantNone(t, routes(to(7, text[:n]+more)), e, api.OK)
				wantNone(t, routes(to(7, more+text[:n])), e, api.OK)
			}
			if n > 0 {
				// What stands further behind begins nothing.
				wantPlain(t, routes(to(6, text[n:])), e)
				wantNone(t, routes(to(6, strings.ToUpper(text[:n]))), e, api.OK)
			}
		}
		wantNone(t, routes(to(6, text+"/")), e, api.OK)
		wantNone(t, routes(to(6, text+strings.Repeat("a", 60-len(text)))), e, api.OK)
	}
}

// P16.1: each name is held against the beginnings of all others' texts.
func TestNamesAndPrefixes(t *testing.T) {
	for _, e := range rightNames() {
		for _, other := range rightNames() {
			text := plainText(other)
			var l []api.Route
			for n := range len(text) + 1 {
				l = append(l, to(6+n%2, text[:n]))
			}
			for part := range slices.Chunk(l, 20) {
				wantPlain(t, part, e)
				slices.Reverse(part)
				wantPlain(t, part, e)
			}
		}
	}
}

// P16.1: the longest Prefix stands first, of those of one length the first one, whatever the side.
func TestOrder(t *testing.T) {
	l := routes(to(6, ""), to(7, "ipn:4"), to(6, "ipn"), to(6, "ipn:4"), to(7, ""), to(7, "ipn:5"), to(6, "ipn:4.7"), to(7, "ipn:4"))
	wantAll(t, l, ipn(4, 7), []int{6, 1, 3, 7, 2, 0, 4}, api.OK)
	wantAll(t, l, ipn(4, 77), []int{6, 1, 3, 7, 2, 0, 4}, api.OK)
	wantAll(t, l, ipn(5, 0), []int{5, 2, 0, 4}, api.OK)
	wantAll(t, l, ipn(6, 0), []int{2, 0, 4}, api.OK)
	wantAll(t, l, none(), []int{0, 4}, api.OK)
	all := make([]int, 20)
	for i := range all {
		all[i] = i
	}
	for _, prefix := range []string{"", "d", "dtn:", "dtn:none"} {
		wantAll(t, slices.Repeat(routes(to(6, prefix), to(7, prefix)), 10), none(), all, api.OK)
	}
	// Two lengths by turns: what is sorted must stay in order in each of them.
	wantAll(t, slices.Repeat(routes(to(6, ""), to(7, "dtn")), 10), none(), []int{1, 3, 5, 7, 9, 11, 13, 15, 17, 19, 0, 2, 4, 6, 8, 10, 12, 14, 16, 18}, api.OK)
	wantAll(t, slices.Repeat(routes(to(6, "dtn:none"), to(7, "dtn:non")), 10), none(), []int{0, 2, 4, 6, 8, 10, 12, 14, 16, 18, 1, 3, 5, 7, 9, 11, 13, 15, 17, 19}, api.OK)
}

func TestNoRoutes(t *testing.T) {
	for _, e := range rightNames() {
		wantNone(t, nil, e, api.OK)
		wantNone(t, []api.Route{}, e, api.OK)
		wantNone(t, routes(to(6, "x"), to(7, "dtn:no name")), e, api.OK)
	}
}

func pick[T any](r *rand.Rand, l ...T) T { return l[r.Intn(len(l))] }

func randomName(r *rand.Rand) api.Eid {
	switch r.Intn(12) {
	case 0:
		return none()
	case 1:
		return pick(r, wrongNames()...)
	case 2:
		return pick(r, rightNames()...)
	case 3, 4, 5, 6:
		return dtn(pick(r, "a", "aa", "ab", "b"), pick(r, "", "a", "/", "a/a", "ab"))
	}
	return ipn(1+r.Intn(12), r.Intn(12))
}

// randomPrefix is mostly the beginning of a name's text.
func randomPrefix(r *rand.Rand) string {
	switch r.Intn(20) {
	case 0:
		return strings.Repeat("a", r.Intn(62))
	case 1:
		return ""
	}
	text := plainText(randomName(r))
	return text[:r.Intn(len(text)+1)]
}

func randomRoutes(r *rand.Rand) []api.Route {
	var l []api.Route
	for range r.Intn(22) {
		l = append(l, to(6+r.Intn(2), randomPrefix(r)))
	}
	if len(l) > 0 && r.Intn(20) == 0 {
		l[r.Intn(len(l))].Side = pick(r, far()...)
	}
	return l
}

func TestRandomRoutes(t *testing.T) {
	r := rand.New(rand.NewSource(16))
	many := 0
	for range 100000 {
		if len(wantPlain(t, randomRoutes(r), randomName(r))) > 3 {
			many++
		}
	}
	if many < 1000 {
		t.Errorf("too few names have many routes: %d", many)
	}
}

// P16.3: no route that matches is longer than the one that is found; a route more leaves what is found, or is found itself.
func TestOneRouteMore(t *testing.T) {
	r := rand.New(rand.NewSource(163))
	kept, taken := 0, 0
	for range 50000 {
		l, e, more := randomRoutes(r), randomName(r), to(6+r.Intn(2), randomPrefix(r))
		before, found, wrong := route.Find(l, e)
		for _, x := range l {
			if found && begins(x.Prefix, plainText(e)) && len(x.Prefix) > len(l[before].Prefix) {
				t.Errorf("%s is longer than what was found, at %d of %s, for %+v", x.Prefix, before, short(l), e)
			}
		}
		place := r.Intn(len(l) + 1)
		longer := slices.Insert(slices.Clone(l), place, more)
		after, still, e2 := route.Find(longer, e)
		if wrong != api.OK || e2 != api.OK {
			continue
		}
		// What stood behind the new one stands one place further on now.
		shifted := before
		if before >= place {
			shifted++
		}
		switch {
		case still && after == place:
			taken++
		case found == still && (!found && after == 0 || found && after == shifted):
			kept++
		default:
			t.Errorf("Find(%s, %+v): %d %t; without what is at %d: %d %t", short(longer), e, after, still, place, before, found)
		}
	}
	if kept < 1000 || taken < 1000 {
		t.Errorf("too few of one kind: %d %d", kept, taken)
	}
}

// wide is a policy that denies next to nothing.
func wide() api.Policy {
	return api.Policy{MaxSize: math.MaxInt, MaxLife: math.MaxInt, Custody: true}
}

func denying(l ...string) api.Policy {
	p := wide()
	p.Deny = l
	return p
}

// P16.2: which policies are right.
func TestRightPolicy(t *testing.T) {
	wantPolicy(t, api.Policy{}, true)
	wantPolicy(t, wide(), true)
	for _, n := range []int{math.MinInt, -1 << 32, -256, -2, -1, 0, 1, 2, 1 << 32, 281474976710655, 281474976710656, math.MaxInt} {
		for _, custody := range []bool{false, true} {
			wantPolicy(t, api.Policy{MaxSize: n, Custody: custody}, n >= 0)
			wantPolicy(t, api.Policy{MaxLife: n, Custody: custody}, n >= 0)
			wantPolicy(t, api.Policy{MaxSize: n, MaxLife: 9, Custody: custody}, n >= 0)
			wantPolicy(t, api.Policy{MaxSize: 9, MaxLife: n, Custody: custody}, n >= 0)
			wantPolicy(t, api.Policy{MaxSize: n, MaxLife: n, Custody: custody}, n >= 0)
		}
	}
	for count := range 25 {
		for _, text := range []string{"a", "ipn:4.", strings.Repeat("a", 60)} {
			wantPolicy(t, denying(slices.Repeat([]string{text}, count)...), count <= 20)
		}
	}
	wantPolicy(t, denying(slices.Repeat([]string{"a"}, 1<<16)...), false)
	wantPolicy(t, denying([]string{}...), true)
}

// P16.2: texts of Deny that are wrong, at each place.
func TestRightDenials(t *testing.T) {
	for n := range 64 {
		for _, letter := range []string{"a", "\x00", "\xff", "/"} {
			for count := 1; count <= 20; count++ {
				for _, place := range []int{0, count / 2, count - 1} {
					l := slices.Repeat([]string{"x"}, count)
					l[place] = strings.Repeat(letter, n)
					wantPolicy(t, denying(l...), n >= 1 && n <= 60)
				}
			}
		}
	}
	// Bytes are counted, not runes.
	for text, right := range map[string]bool{"": false, strings.Repeat("\u00e9", 30): true, strings.Repeat("\u00e9", 31): false, strings.Repeat("a", 1<<8): false, strings.Repeat("a", 1<<16): false} {
		wantPolicy(t, denying(text), right)
	}
}

// P16.2: each wrong at once with any others: the one that the chapter names first is told.
func TestWhichErrorOfPass(t *testing.T) {
	wrong := []api.Errno{api.ErrRoutes, api.ErrEid, api.ErrDenied, api.ErrSize, api.ErrLife, api.ErrNoCustody}
	for set := range 1 << len(wrong) {
		has := func(place int) bool { return set>>place&1 == 1 }
		p, a := api.Policy{MaxSize: 5, MaxLife: 9, Deny: []string{"ipn:4."}, Custody: true}, asking{5, 9, true, names(ipn(42, 0))}
		if has(0) {
			p.Deny = append(p.Deny, "")
		}
		if has(2) {
			a.names = append(a.names, ipn(4, 0))
		}
		if has(1) {
			a.names = append(a.names, ipn(0, 0))
		}
		if has(3) {
			a.size++
		}
		if has(4) {
			a.life++
		}
		if has(5) {
			p.Custody = false
		}
		want := api.OK
		for place := len(wrong) - 1; place >= 0; place-- {
			if has(place) {
				want = wrong[place]
			}
		}
		wantPass(t, p, a, want)
		slices.Reverse(a.names)
		wantPass(t, p, a, want)
		slices.Reverse(p.Deny)
		wantPass(t, p, a, want)
	}
}

// P16.2: sizes and lives around what is allowed, and far from it.
func TestPassNumbers(t *testing.T) {
	edges := []int{0, 1, 2, 5, 600, 1500, 281474976710655, 1 << 32, 1<<63 - 2, math.MaxInt}
	for _, most := range edges {
		asked := append(slices.Clone(edges), most-1, most, -1, -2, -most, math.MinInt, math.MinInt+1)
		if most < math.MaxInt {
			asked = append(asked, most+1)
		}
		for _, n := range asked {
			size, life := api.OK, api.OK
			if n > most {
				size, life = api.ErrSize, api.ErrLife
			}
			for _, custody := range []bool{false, true} {
				p := wide()
				p.MaxSize = most
				wantPass(t, p, asking{n, math.MaxInt, custody, nil}, size)
				wantPass(t, p, asking{n, 0, custody, names(none())}, size)
				p = wide()
				p.MaxLife = most
				wantPass(t, p, asking{math.MaxInt, n, custody, nil}, life)
				wantPass(t, p, asking{0, n, custody, names(none())}, life)
			}
		}
	}
	// Each number is held against its own most.
	wantPass(t, api.Policy{MaxSize: 5, MaxLife: 9}, asking{9, 5, false, nil}, api.ErrSize)
	wantPass(t, api.Policy{MaxSize: 9, MaxLife: 5}, asking{5, 9, false, nil}, api.ErrLife)
	wantPass(t, api.Policy{MaxSize: 9, MaxLife: 5}, asking{9, 5, false, nil}, api.OK)
}

// P16.2: custody is denied unless the policy has it.
func TestPassCustody(t *testing.T) {
	for _, custody := range []bool{false, true} {
		wantPass(t, api.Policy{Custody: true}, asking{custody: custody}, api.OK)
	}
	wantPass(t, api.Policy{}, asking{}, api.OK)
	wantPass(t, api.Policy{}, asking{custody: true}, api.ErrNoCustody)
	wantPass(t, api.Policy{MaxSize: 9, MaxLife: 9, Deny: []string{"ipn:4"}}, asking{9, 9, true, names(ipn(5, 0), none())}, api.ErrNoCustody)
}

// P16.2: a text of Deny denies the names whose texts it begins, at each place of both.
func TestPassDenied(t *testing.T) {
	for _, e := range rightNames() {
		text := plainText(e)
		for n := range len(text) {
			wantPass(t, denying(text[:n+1]), asking{names: names(e)}, api.ErrDenied)
			wantPlainPass(t, denying(text[n:]), asking{names: names(e)})
			wantPass(t, denying(text[:n]+"\x00"), asking{names: names(e)}, api.OK)
			wantPass(t, denying(text[:n]+"\x00"+text[n+1:]), asking{names: names(e)}, api.OK)
		}
		for _, more := range []string{"\x00", "a", "0", "/", strings.Repeat("a", 60-len(text))} {
			wantPass(t, denying(text+more), asking{names: names(e)}, api.OK)
		}
		for count := 1; count <= 20; count++ {
			for place := range count {
				deny := slices.Repeat([]string{"x"}, count)
				all := slices.Repeat(names(ipn(8, 8)), count)
				wantPass(t, denying(deny...), asking{names: all}, api.OK)
				all[place] = e
				wantPass(t, denying(deny...), asking{names: all}, api.OK)
				deny[count-1-place] = text
				wantPass(t, denying(deny...), asking{names: all}, api.ErrDenied)
			}
		}
		wantPass(t, denying(text), asking{}, api.OK)
		wantPass(t, denying("dtn:", "ipn:"), asking{names: names(e)}, api.ErrDenied)
	}
}

// P16.2: a wrong name is told of wherever it stands, also behind one that is denied.
func TestPassNames(t *testing.T) {
	for _, wrong := range wrongNames() {
		wantPass(t, wide(), asking{names: names(wrong)}, api.ErrEid)
		wantPass(t, denying("no name", "dtn", "ipn"), asking{names: names(wrong)}, api.ErrEid)
		for count := 1; count <= 4; count++ {
			for place := range count {
				all := slices.Repeat(names(ipn(4, 7)), count)
				all[place] = wrong
				wantPass(t, wide(), asking{names: all}, api.ErrEid)
				wantPass(t, denying("ipn:4"), asking{names: all}, api.ErrEid)
			}
		}
	}
	wantPass(t, wide(), asking{names: rightNames()}, api.OK)
}

func randomPolicy(r *rand.Rand) api.Policy {
	p := api.Policy{MaxSize: r.Intn(40) - 1, MaxLife: r.Intn(40) - 1, Custody: r.Intn(3) > 0}
	for range pick(r, 0, 1, 2, 3, 4, 20, 21) {
		p.Deny = append(p.Deny, pick(r, "x", "dtn://b/", "ipn:12.1", randomPrefix(r)+pick(r, "", "0", "a")))
	}
	return p
}

func TestRandomPass(t *testing.T) {
	r := rand.New(rand.NewSource(162))
	told := map[api.Errno]int{}
	for range 200000 {
		a := asking{r.Intn(30) - 1, r.Intn(30) - 1, r.Intn(2) == 0, nil}
		for range r.Intn(4) {
			a.names = append(a.names, randomName(r))
		}
		told[wantPlainPass(t, randomPolicy(r), a)]++
	}
	for _, e := range []api.Errno{api.OK, api.ErrRoutes, api.ErrEid, api.ErrDenied, api.ErrSize, api.ErrLife, api.ErrNoCustody} {
		if told[e] < 1000 {
			t.Errorf("too few of error %d: %v", e, told)
		}
	}
}

// R1: very much is gone through, too.
func TestMuch(t *testing.T) {
	wantNone(t, slices.Repeat(routes(to(6, "")), 1<<22), ipn(0, 0), api.ErrRoutes)
	wantNone(t, routes(to(6, strings.Repeat("a", 1<<24))), none(), api.ErrRoutes)
	wantNone(t, routes(to(6, "")), dtn(strings.Repeat("a", 1<<24), ""), api.ErrEid)
	wantPass(t, denying(slices.Repeat([]string{"dtn:none"}, 1<<22)...), asking{names: names(none())}, api.ErrRoutes)
	wantPass(t, denying(strings.Repeat("a", 1<<24)), asking{}, api.ErrRoutes)
	all := slices.Repeat(names(dtn("a", "b"), ipn(4, 7)), 1<<16)
	wantPass(t, denying("dtn:none"), asking{names: all}, api.OK)
	wantPass(t, denying("dtn:none"), asking{names: append(all, none())}, api.ErrDenied)
	wantPass(t, denying("dtn:none"), asking{names: append(all, none(), ipn(0, 0))}, api.ErrEid)
}

// R3: nil and empty lists are one, handed in.
func TestEmptyLists(t *testing.T) {
	wantRight(t, []api.Route{}, true)
	wantRight(t, make([]api.Route, 0, 30), true)
	wantNone(t, make([]api.Route, 0, 30), ipn(4, 7), api.OK)
	wantPolicy(t, denying(make([]string, 0, 30)...), true)
	wantPass(t, denying(make([]string, 0, 30)...), asking{names: make([]api.Eid, 0, 30)}, api.OK)
}

// roomy is the same list with spare room behind it.
func roomy[T any](l []T) []T { return append(make([]T, 0, len(l)+20), l...) }

// wantUntouched wants of a list with spare room that it is as it was, and nothing in that room.
func wantUntouched[T comparable](t *testing.T, got []T, want []T) {
	t.Helper()
	if !slices.Equal(got[:cap(got)], append(slices.Clone(want), make([]T, 20)...)) {
		t.Errorf("handed in was %s; it was %s", short(got[:cap(got)]), short(want))
	}
}

// R3: what is handed in is not written into, nor its spare room, nor kept.
func TestHandedIn(t *testing.T) {
	want := routes(to(6, ""), to(7, "ipn:4"), to(6, "ipn:4."), to(7, "dtn"), to(6, "ipn"))
	l := roomy(want)
	wantAll(t, l, ipn(4, 7), []int{2, 1, 4, 0}, api.OK)
	wantNone(t, l, ipn(0, 0), api.ErrEid)
	wantUntouched(t, l, want)
	places, _ := route.All(l, ipn(4, 7))
	clear(l[:cap(l)])
	if !slices.Equal(places, []int{2, 1, 4, 0}) {
		t.Errorf("an answer changed: %v", places)
	}
	deny, all := roomy([]string{"z", "ipn:4", "b", "a"}), roomy(names(none(), ipn(5, 7), ipn(4, 7)))
	wantPass(t, denying(deny...), asking{names: all}, api.ErrDenied)
	wantPass(t, denying(deny...), asking{names: all[:2]}, api.OK)
	wantPolicy(t, denying(deny...), true)
	wantUntouched(t, deny, []string{"z", "ipn:4", "b", "a"})
	wantUntouched(t, all, names(none(), ipn(5, 7), ipn(4, 7)))
}

// R3: what is answered is new memory each time, spare room too.
func TestAnswered(t *testing.T) {
	for count := 1; count <= 20; count++ {
		l := slices.Repeat(routes(to(6, "dtn:")), count)
		got, _ := route.All(l, none())
		other, _ := route.All(l, none())
		for i := range got[:cap(got)] {
			got[:cap(got)][i] = -1
		}
		want, _ := plainAll(l, none())
		if !slices.Equal(other, want) {
			t.Errorf("two answers share memory: %v", other)
		}
		wantAll(t, l, none(), want, api.OK)
	}
}

// R4: calls leave nothing behind that another one could tell.
func TestKeepsNothing(t *testing.T) {
	for range 3 {
		wantAll(t, routes(to(6, "ipn:"), to(7, "ipn:4")), ipn(4, 7), []int{1, 0}, api.OK)
		wantNone(t, routes(to(6, "dtn:")), ipn(4, 7), api.OK)
		wantNone(t, routes(to(8, "ipn:")), ipn(4, 7), api.ErrRoutes)
		wantNone(t, routes(to(7, "ipn:")), ipn(0, 7), api.ErrEid)
		wantRight(t, routes(to(6, "ipn:")), true)
		wantRight(t, routes(to(8, "ipn:")), false)
		wantPass(t, denying("ipn:4"), asking{names: names(ipn(4, 7))}, api.ErrDenied)
		wantPass(t, denying("ipn:5"), asking{names: names(ipn(4, 7))}, api.OK)
		wantPass(t, api.Policy{}, asking{1, 1, true, nil}, api.ErrSize)
		wantPass(t, api.Policy{MaxSize: -1}, asking{}, api.ErrRoutes)
		wantPass(t, wide(), asking{1, 1, true, nil}, api.OK)
	}
}
