package eid_test

import (
	"fmt"
	"math"
	"math/rand"
	"regexp"
	"slices"
	"strconv"
	"strings"
	"testing"

	"postrider/api"
	"postrider/eid"
)

// rightText is what the chapter says of a right name's text.
var rightText = regexp.MustCompile(`\A(?:dtn:none|dtn://[a-z0-9.-]{1,20}/[a-z0-9./-]{0,20}|ipn:[1-9][0-9]{0,8}\.(?:0|[1-9][0-9]{0,8}))\z`)

const letters = "abcdefghijklmnopqrstuvwxyz0123456789-."

func none() api.Eid { return api.Eid{} }

func dtn(node string, service string) api.Eid {
	return api.Eid{Scheme: api.Dtn, Node: node, Service: service}
}

func ipn(a int, b int) api.Eid { return api.Eid{Scheme: api.Ipn, A: a, B: b} }

func oneByte(b int) string { return string([]byte{byte(b)}) }

// plainHalves are those of a right name, as the chapter says them.
func plainHalves(e api.Eid) (string, string) {
	switch e.Scheme {
	case api.Dtn:
		return "dtn", "//" + e.Node + "/" + e.Service
	case api.Ipn:
		return "ipn", strconv.Itoa(e.A) + "." + strconv.Itoa(e.B)
	}
	return "dtn", "none"
}

func plainText(e api.Eid) string {
	scheme, rest := plainHalves(e)
	return scheme + ":" + rest
}

// rightNames are ordinary ones, and those at the edges.
func rightNames() []api.Eid {
	l := []api.Eid{none(), dtn("earth", "news"), dtn("earth", ""), dtn("none", ""), dtn("none", "none"), dtn("dtn", "ipn"), dtn("4.7", "4.7"), dtn(".", "."), dtn("..", "../.."), dtn("-", "-")}
	for n := 1; n <= 20; n++ {
		part := letters[len(letters)-n:]
		l = append(l, dtn(part, ""), dtn("a", part), dtn(part, part), dtn("a", strings.Repeat("/", n)), dtn(strings.Repeat("-", n), strings.Repeat(".", n)))
	}
	for _, b := range letters {
		l = append(l, dtn(string(b), ""), dtn("a"+string(b)+"a", string(b)), dtn("a", "/"+string(b)))
	}
	for a := 1; a <= 999999999; a *= 10 {
		for b := 1; b <= 999999999; b *= 10 {
			l = append(l, ipn(a, 0), ipn(a, b), ipn(a, b*10-1), ipn(a*10-1, b), ipn(a*10-1, b*10-1))
		}
	}
	return l
}

func noSchemes() []int {
	return []int{math.MinInt, -256, -2, -1, 3, 4, 10, 255, 256, 257, 258, 1 << 32, 1<<32 + 1, 1<<32 + 2, math.MaxInt}
}

func noIpns() []int {
	return []int{math.MinInt, math.MinInt + 1, -999999999, -1 << 32, -2, -1, 1000000000, 1000000001, 9999999999, 1 << 32, 1<<32 + 1, math.MaxInt}
}

// noParts are neither nodes nor services.
func noParts() []string {
	l := []string{strings.Repeat("a", 21), strings.Repeat("a", 22), strings.Repeat("a", 1<<16), "\xc3\xa9", "a\xc3\xa9", "\xff", "a\xffb", "\xc3", "\xef\xbf\xbd", "\xed\xa0\x80", "\xef\xbd\x81", "a b", "a\n", "\x00"}
	for b := range 256 {
		if !strings.Contains(letters+"/", oneByte(b)) {
			l = append(l, oneByte(b), "a"+oneByte(b), oneByte(b)+"a")
		}
	}
	return l
}

// wrongNames are one field away from right ones.
func wrongNames() []api.Eid {
	l := []api.Eid{{Node: "a"}, {Service: "a"}, {A: 1}, {B: 1}, {A: -1}, {B: -1}, {Node: "none"}, {Node: "a", Service: "a", A: 1, B: 1}}
	for _, n := range []int{-1, 1, 7, math.MinInt, math.MaxInt} {
		l = append(l, api.Eid{Scheme: api.Dtn, Node: "a", A: n}, api.Eid{Scheme: api.Dtn, Node: "a", Service: "b", B: n})
	}
	for _, s := range []string{"a", "/", " ", "\x00", "\xff"} {
		l = append(l, api.Eid{Scheme: api.Ipn, A: 1, Node: s}, api.Eid{Scheme: api.Ipn, A: 1, B: 1, Service: s})
	}
	for _, scheme := range noSchemes() {
		l = append(l, api.Eid{Scheme: scheme}, api.Eid{Scheme: scheme, Node: "a", Service: "b"}, api.Eid{Scheme: scheme, A: 4, B: 7})
	}
	l = append(l, dtn("", ""), dtn("", "a"), dtn("/", ""), dtn("a/", ""), dtn("/a", ""), dtn("a/b", "c"), ipn(0, 0), ipn(0, 1))
	for _, s := range noParts() {
		l = append(l, dtn(s, ""), dtn(s, "a"), dtn("a", s))
	}
	for _, n := range noIpns() {
		l = append(l, ipn(n, 0), ipn(n, 1), ipn(1, n), ipn(n, n))
	}
	return l
}

// randomNames are right ones of all schemes.
func randomNames(count int) []api.Eid {
	r := rand.New(rand.NewSource(6))
	some := func(alphabet string, n int) string {
		s := ""
		for range n {
			s += oneByte(int(alphabet[r.Intn(len(alphabet))]))
		}
		return s
	}
	var l []api.Eid
	for range count {
		l = append(l, dtn(some(letters, 1+r.Intn(20)), some(letters+"/", r.Intn(21))), ipn(1+r.Intn(999999999), r.Intn(1000000000)))
	}
	return l
}

// short keeps what is told of long texts readable.
func short(s string) string { return s[:min(len(s), 60)] }

func told(e api.Eid) string {
	return fmt.Sprintf("{%d %q %q %d %d}", e.Scheme, short(e.Node), short(e.Service), e.A, e.B)
}

func wantName(t *testing.T, e api.Eid) {
	t.Helper()
	scheme, rest := plainHalves(e)
	text := scheme + ":" + rest
	if !eid.Right(e) {
		t.Errorf("Right(%v) = false", told(e))
	}
	if a, b, wrong := eid.Halves(e); a != scheme || b != rest || wrong != api.OK {
		t.Errorf("Halves(%v) = %q, %q, %d; want %q, %q", told(e), a, b, wrong, scheme, rest)
	}
	if s, wrong := eid.Print(e); s != text || wrong != api.OK {
		t.Errorf("Print(%v) = %q, %d; want %q", told(e), s, wrong, text)
	}
	if x, wrong := eid.Join(scheme, rest); x != e || wrong != api.OK {
		t.Errorf("Join(%q, %q) = %v, %d; want %v", scheme, rest, told(x), wrong, told(e))
	}
	if x, wrong := eid.Parse(text); x != e || wrong != api.OK {
		t.Errorf("Parse(%q) = %v, %d; want %v", text, told(x), wrong, told(e))
	}
}

func wantNoName(t *testing.T, e api.Eid) {
	t.Helper()
	if eid.Right(e) {
		t.Errorf("Right(%v) = true", told(e))
	}
	if a, b, wrong := eid.Halves(e); a != "" || b != "" || wrong != api.ErrEid {
		t.Errorf("Halves(%v) = %q, %q, %d; want ErrEid", told(e), a, b, wrong)
	}
	if s, wrong := eid.Print(e); s != "" || wrong != api.ErrEid {
		t.Errorf("Print(%v) = %q, %d; want ErrEid", told(e), s, wrong)
	}
	if x, wrong := eid.Home(e); x != none() || wrong != api.ErrEid {
		t.Errorf("Home(%v) = %v, %d; want ErrEid", told(e), told(x), wrong)
	}
}

// wantText holds what is parsed of a text against the chapter, right or not.
func wantText(t *testing.T, s string) {
	t.Helper()
	x, wrong := eid.Parse(s)
	if !rightText.MatchString(s) {
		if x != none() || wrong != api.ErrEid {
			t.Errorf("Parse(%q) = %v, %d; want ErrEid", short(s), told(x), wrong)
		}
		return
	}
	if wrong != api.OK || plainText(x) != s {
		t.Errorf("Parse(%q) = %v, %d", short(s), told(x), wrong)
	}
}

func wantHalves(t *testing.T, scheme string, rest string) {
	t.Helper()
	x, wrong := eid.Join(scheme, rest)
	if strings.Contains(scheme, ":") || !rightText.MatchString(scheme+":"+rest) {
		if x != none() || wrong != api.ErrEid {
			t.Errorf("Join(%q, %q) = %v, %d; want ErrEid", short(scheme), short(rest), told(x), wrong)
		}
		return
	}
	if wrong != api.OK || plainText(x) != scheme+":"+rest {
		t.Errorf("Join(%q, %q) = %v, %d", short(scheme), short(rest), told(x), wrong)
	}
}

func wantHome(t *testing.T, e api.Eid, want api.Eid) {
	t.Helper()
	if x, wrong := eid.Home(e); x != want || wrong != api.OK {
		t.Errorf("Home(%v) = %v, %d; want %v", told(e), told(x), wrong, told(want))
	}
}

// P6.1: what the chapter's table says.
func TestExamples(t *testing.T) {
	for s, want := range map[string]api.Eid{
		"dtn:none":         {},
		"dtn://earth/news": {Scheme: 1, Node: "earth", Service: "news"},
		"dtn://earth/":     {Scheme: 1, Node: "earth"},
		"ipn:4.7":          {Scheme: 2, A: 4, B: 7},
	} {
		if x, wrong := eid.Parse(s); x != want || wrong != 0 {
			t.Errorf("Parse(%q) = %v, %d", s, told(x), wrong)
		}
		if text, wrong := eid.Print(want); text != s || wrong != 0 {
			t.Errorf("Print(%v) = %q, %d", told(want), text, wrong)
		}
	}
}

// P6.1
func TestRightNames(t *testing.T) {
	for _, e := range rightNames() {
		wantName(t, e)
	}
}

// P6.1, P6.2
func TestWrongNames(t *testing.T) {
	for _, e := range wrongNames() {
		wantNoName(t, e)
	}
}

// P6.1: which bytes may stand in a node, and which in a service.
func TestBytesOfParts(t *testing.T) {
	for b := range 256 {
		s := oneByte(b)
		inNode, inService := strings.Contains(letters, s), strings.Contains(letters+"/", s)
		for _, around := range [][2]string{{"", ""}, {"a", ""}, {"", "a"}, {"a", "a"}, {strings.Repeat("a", 19), ""}} {
			part := around[0] + s + around[1]
			if eid.Right(dtn(part, "")) != inNode || eid.Right(dtn("a", part)) != inService {
				t.Errorf("Right of a part %q: want %v in a node, %v in a service", part, inNode, inService)
			}
		}
	}
}

// P6.1: how long nodes and services are.
func TestLengthsOfParts(t *testing.T) {
	for n := range 50 {
		part := strings.Repeat("a", n)
		for e, want := range map[api.Eid]bool{dtn(part, ""): 1 <= n && n <= 20, dtn("a", part): n <= 20, dtn(part, part): 1 <= n && n <= 20, dtn("a", strings.Repeat("/", n)): n <= 20} {
			if eid.Right(e) != want {
				t.Errorf("Right(%v) = %v", told(e), !want)
			}
			if want {
				wantName(t, e)
			} else {
				wantNoName(t, e)
			}
			wantText(t, plainText(e))
		}
	}
}

// P6.1: how great the numbers are.
func TestNumbers(t *testing.T) {
	edges := append(noIpns(), 0, 1, 2, 9, 10, 99999999, 100000000, 999999998, 999999999)
	for _, a := range edges {
		for _, b := range edges {
			e := ipn(a, b)
			if 1 <= a && a <= 999999999 && 0 <= b && b <= 999999999 {
				wantName(t, e)
			} else {
				wantNoName(t, e)
			}
			wantText(t, plainText(e))
		}
	}
}

// P6.1: digits of one number alone are a number's.
func TestDigits(t *testing.T) {
	for _, s := range []string{"", " ", "0", "00", "01", "1", "9", "+1", "-1", "-0", "+0", "1 ", " 1", "1_0", "0x1", "1e1", "1.", ".1", "1,0", "a", "none", "\x00", "1\x00", "\xd9\xa1", "\xef\xbc\x91", "999999999", "0999999999", "1000000000", "9999999999", "4294967297", "9223372036854775807", "9223372036854775808", "18446744073709551617", "-9223372036854775808", strings.Repeat("9", 1<<16), strings.Repeat("0", 1<<16), strings.Repeat("0", 1<<16) + "1"} {
		for _, text := range []string{"ipn:" + s + ".7", "ipn:4." + s, "ipn:" + s, "ipn:" + s + "." + s, "ipn:" + s + ".", "ipn:." + s} {
			wantText(t, text)
		}
	}
}

// P6.1: texts that are nearly names.
func TestWrongTexts(t *testing.T) {
	for _, s := range []string{"", ":", "::", "dtn", "ipn", "none", "dtn:", "ipn:", ":none", "dtn:None", "DTN:none", "Dtn://a/b", "IPN:4.7", "dtn:none ", " dtn:none", "dtn:none\n", "dtn:none/", "dtn:none:", "dtn::none", "dtn:dtn:none", "dtn:non", "dtn:nonee", "ipn:none", "none:none", "dtn:0", "dtn:4.7", "dtn:/", "dtn://", "dtn:///", "dtn:////", "dtn:///a", "dtn:a", "dtn:a/b", "dtn:/a/b", "dtn://a", "dtn:x//a/b", "dtn://a//", "dtn://none", "dtn://none/", "ipn://a/b", "ipn:4", "ipn:4.", "ipn:.", "ipn:.7", "ipn:4..7", "ipn:4.7.1", "ipn:4.7.", "ipn:4.7/", "ipn:4:7", "ipn:4.7:", "ipn::4.7", "http://a/b", "dtn2://a/b", "tn:none", "dt:none", "dtn:://a/b", "dtn ://a/b", "\xff", "\x00"} {
		wantText(t, s)
	}
}

// P6.1: whatever byte is put in, taken out, or another one.
func TestTextsChanged(t *testing.T) {
	seeds := []string{"dtn:none", "dtn://earth/news", "dtn://a/", "dtn://a//", "ipn:4.7", "ipn:10.0", "ipn:999999999.999999999", "dtn://aaaaaaaaaaaaaaaaaaaa/aaaaaaaaaaaaaaaaaaaa"}
	for _, s := range seeds {
		wantText(t, s)
		for i := range len(s) + 1 {
			wantText(t, s[:i])
			wantText(t, s[i:])
			for b := range 256 {
				wantText(t, s[:i]+oneByte(b)+s[i:])
				if i < len(s) {
					wantText(t, s[:i]+oneByte(b)+s[i+1:])
				}
			}
			for j := i; j <= len(s); j++ {
				wantText(t, s[:i]+s[j:])
				wantText(t, s[:j]+s[i:])
			}
		}
	}
}

// P6.1: texts put together of what names have in them.
func TestTextsOfPieces(t *testing.T) {
	pieces := []string{"dtn", "ipn", ":", "none", "//", "/", ".", "a", "0", "1", "07"}
	l := []string{""}
	for from, steps := 0, 5; steps > 0; steps-- {
		to := len(l)
		for _, s := range l[from:to] {
			for _, p := range pieces {
				l = append(l, s+p)
			}
		}
		from = to
	}
	for _, s := range l {
		wantText(t, s)
	}
}

// P6.1: halves that do not belong together, and where a text is cut elsewhere than at its mark.
func TestJoin(t *testing.T) {
	firsts := []string{"", "dtn", "ipn", "Dtn", "DTN", "dtn:", "ipn:", ":dtn", "dt", "dtnn", "none", "http", "dtn ", "dtn:dtn", "\x00", "\xff"}
	rests := []string{"", "none", "None", ":none", "none:", "dtn:none", "//a/b", "//a/", "//a", "//none/", "//", "///", ":////a/b", "4.7", "4.0", "0.7", "04.7", "4.07", "+4.7", "4", ":4.7", "ipn:4.7", "\x00", "\xff"}
	for _, scheme := range firsts {
		for _, rest := range rests {
			wantHalves(t, scheme, rest)
		}
	}
	for _, e := range rightNames() {
		s := plainText(e)
		for i := range len(s) + 1 {
			wantHalves(t, s[:i], s[i:])
			if i < len(s) {
				wantHalves(t, s[:i], s[i+1:])
			}
		}
	}
}

// R1: long texts are refused too, wherever they are long.
func TestLongTexts(t *testing.T) {
	for _, s := range []string{"a", ":", "/", ".", "9", "0", "\xff", "\x00"} {
		long := strings.Repeat(s, 1<<20)
		for _, text := range []string{long, "dtn:" + long, "dtn://" + long, "dtn://a/" + long, "dtn://" + long + "/", "ipn:" + long, "ipn:4." + long, "ipn:" + long + ".7"} {
			wantText(t, text)
		}
		wantHalves(t, long, "none")
		wantHalves(t, "dtn", long)
		wantHalves(t, "ipn", long)
		wantNoName(t, dtn(long, long))
	}
}

// P6.2
func TestHome(t *testing.T) {
	wantHome(t, none(), none())
	wantHome(t, dtn("earth", "news"), dtn("earth", ""))
	wantHome(t, dtn("earth", ""), dtn("earth", ""))
	wantHome(t, dtn("none", "/"), dtn("none", ""))
	wantHome(t, ipn(4, 7), ipn(4, 0))
	wantHome(t, ipn(4, 0), ipn(4, 0))
	wantHome(t, ipn(999999999, 999999999), ipn(999999999, 0))
	for _, e := range slices.Concat(rightNames(), randomNames(1000)) {
		want := none()
		switch e.Scheme {
		case api.Dtn:
			want = dtn(e.Node, "")
		case api.Ipn:
			want = ipn(e.A, 0)
		}
		wantHome(t, e, want)
	}
}

// P6.3: a name is parsed from its text, and joined of its halves.
func TestThereAndBack(t *testing.T) {
	for _, e := range slices.Concat(rightNames(), randomNames(20000)) {
		wantName(t, e)
		s, _ := eid.Print(e)
		if x, wrong := eid.Parse(s); x != e || wrong != api.OK {
			t.Errorf("Parse(Print(%v)) = %v, %d", told(e), told(x), wrong)
		}
		scheme, rest, _ := eid.Halves(e)
		if x, wrong := eid.Join(scheme, rest); x != e || wrong != api.OK {
			t.Errorf("Join(Halves(%v)) = %v, %d", told(e), told(x), wrong)
		}
	}
}

// P6.3: no two names have one text.
func TestTextsDiffer(t *testing.T) {
	names := map[string]api.Eid{}
	l := slices.Concat(rightNames(), randomNames(20000))
	for a := 1; a <= 120; a++ {
		for b := range 120 {
			l = append(l, ipn(a, b))
		}
	}
	for _, e := range l {
		s, wrong := eid.Print(e)
		if other, met := names[s]; met && other != e || wrong != api.OK {
			t.Errorf("Print(%v) = %q, %d, as of %v", told(e), s, wrong, told(other))
		}
		names[s] = e
	}
}

// P6.3: a node's name is its own home.
func TestHomeOfHome(t *testing.T) {
	for _, e := range slices.Concat(rightNames(), randomNames(1000)) {
		x, wrong := eid.Home(e)
		if wrong != api.OK || !eid.Right(x) {
			t.Errorf("Home(%v) = %v, %d: not right", told(e), told(x), wrong)
		}
		wantHome(t, x, x)
	}
}

// R4: calls leave nothing behind that another one could tell.
func TestKeepsNothing(t *testing.T) {
	for _, e := range wrongNames() {
		wantNoName(t, e)
		wantText(t, "dtn://A/")
		wantName(t, none())
		wantName(t, dtn("earth", "news"))
		wantName(t, ipn(4, 7))
	}
}
