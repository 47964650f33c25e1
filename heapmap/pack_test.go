package heapmap_test

import (
	"fmt"
	"regexp"
	"strconv"
	"strings"
	"testing"

	"messuage/heapmap"
)

func packs(t *testing.T, s, want string) {
	t.Helper()
	if got := heapmap.Pack(s); got != want {
		t.Errorf("Pack(%.100q) = %.100q, not %.100q", s, got, want)
	}
}

func unpacks(t *testing.T, s, want string) {
	t.Helper()
	if got, ok := heapmap.Unpack(s); got != want || !ok {
		t.Errorf("Unpack(%.100q) = %.100q, %v, not %.100q", s, got, ok, want)
	}
}

// both is of a text and its Pack.
func both(t *testing.T, s, packed string) {
	t.Helper()
	packs(t, s, packed)
	unpacks(t, packed, s)
}

func isNone(t *testing.T, s string) {
	t.Helper()
	if got, ok := heapmap.Unpack(s); got != "" || ok {
		t.Errorf("Unpack(%.100q) = %.100q, %v", s, got, ok)
	}
}

// P22.1: the document's example.
func TestPackExample(t *testing.T) {
	both(t, "..ps", "2.ps")
}

// P22.1, P22.2: rows of one sign, and signs side by side.
func TestPack(t *testing.T) {
	both(t, "", "")
	both(t, ".", ".")
	both(t, "ps", "ps")
	both(t, "pspsps", "pspsps")
	both(t, "pps", "2ps")
	both(t, "pss", "p2s")
	both(t, "ppss", "2p2s")
	both(t, "pspp", "ps2p")
	both(t, "---", "3-")
	both(t, "-- -", "2- -")
	both(t, "ppP", "2pP")
	for _, n := range []int{2, 3, 8, 9, 10, 11, 19, 20, 99, 100, 101, 255, 256, 1000, 1024, 4096, 65535, 65536} {
		row := strings.Repeat("s", n)
		both(t, row, strconv.Itoa(n)+"s")
		if n < 65536 {
			both(t, row+".", strconv.Itoa(n)+"s.")
			both(t, "."+row, "."+strconv.Itoa(n)+"s")
		}
	}
}

// P22.1: signs are bytes, whatever text they are of.
func TestSignsAreBytes(t *testing.T) {
	for sign := range 256 {
		one := string([]byte{byte(sign)})
		if sign >= '0' && sign <= '9' {
			packs(t, one, "")
			isNone(t, one)
			isNone(t, "2"+one)
			continue
		}
		both(t, one, one)
		both(t, one+one, "2"+one)
		both(t, strings.Repeat(one, 12), "12"+one)
		other := string([]byte{byte(sign) ^ 0x80})
		if strings.ContainsAny(other, "0123456789") {
			continue
		}
		both(t, one+one+other, "2"+one+other)
	}
	both(t, "éé", "éé")
	both(t, "\xc3\xc3\xa9\xa9\xa9", "2\xc3"+"3\xa9")
	// Numbers that aren't digits of bytes are signs as others.
	both(t, "٣٣", "٣٣")
	both(t, "½", "½")
	both(t, "+-e.", "+-e.")
	both(t, "\x00\x00\n\n\n", "2\x003\n")
}

// P22.1: of a text with a digit Pack is nothing, wherever it is.
func TestPackOfDigits(t *testing.T) {
	for digit := range 10 {
		d := strconv.Itoa(digit)
		for _, s := range []string{d, d + "s", "s" + d, "s" + d + "s", d + d, "ssss" + d, "ss" + d + "pp", strings.Repeat("s", 70000) + d} {
			packs(t, s, "")
		}
	}
}

// P22.1: a Pack has no limit, an answer of Unpack has 65536 signs at most.
func TestUnpackLimit(t *testing.T) {
	packs(t, strings.Repeat("s", 65537), "65537s")
	packs(t, strings.Repeat("s", 1000000), "1000000s")
	packs(t, strings.Repeat("s", 65536)+"p", "65536sp")
	for _, s := range []string{
		"65537s", "65536sp", "p65536s", "65536s2p", "32768s32769p", "32769s32768p", "99999s", "655360s", "1000000000s",
		"2147483648s", "4294967297s", "4294967298s", "9223372036854775807s", "9223372036854775808s",
		"18446744073709551616s", "18446744073709551618s", "36893488147419103233s", strings.Repeat("9", 1000) + "s",
		"2" + strings.Repeat("0", 64) + "s", "2s" + strings.Repeat("9", 30) + "p", strings.Repeat("sp", 32768) + "s",
	} {
		isNone(t, s)
	}
	both(t, strings.Repeat("s", 32768)+strings.Repeat("p", 32768), "32768s32768p")
	both(t, strings.Repeat("sp", 32768), strings.Repeat("sp", 32768))
	both(t, strings.Repeat("s", 65535)+"p", "65535sp")
	both(t, strings.Repeat("sp", 32767)+"ss", strings.Repeat("sp", 32767)+"2s")
}

// P22.2: a text that would be written in another way is no text's Pack.
func TestUnpackOfNone(t *testing.T) {
	for _, s := range []string{
		"0", "1", "2", "10", "0s", "1s", "00s", "01s", "02s", "002s", "010s", "1s2p", "2p1s", "2p0s", "0p2s", "s0p", "s0p0s",
		"ss", "sss", "2ss", "s2s", "2s2s", "2s3s", "1ss", "s1s", "s0s", "0ss", "2s2", "s2", "ps10", "2p s1", "s ss", "2. 2", "..ps",
	} {
		isNone(t, s)
	}
	unpacks(t, "-2s", "-ss")
	unpacks(t, "+10s", "+ssssssssss")
	unpacks(t, " 2s ", " ss ")
	unpacks(t, "2s.2s", "ss.ss")
}

// inForm tells by a pattern whether a text is one's Pack, if no count is too great: each count as it is written, each
// sign another one than that ahead of it.
var inForm = regexp.MustCompile(`^(([2-9]|[1-9][0-9]+)?[^0-9])*$`)

func isPack(s string) bool {
	var ahead rune
	for _, sign := range s {
		if sign >= '0' && sign <= '9' {
			continue
		}
		if sign == ahead {
			return false
		}
		ahead = sign
	}
	return inForm.MatchString(s)
}

// P22.2: all texts of up to six signs out of a few: each one that is in form comes back, no other one does.
func TestAllShortTexts(t *testing.T) {
	const few = "012sp"
	found := 0
	all := []string{""}
	for i := 0; i < len(all); i++ {
		s := all[i]
		if len(s) < 6 {
			for _, sign := range few {
				all = append(all, s+string(sign))
			}
		}
		text, ok := heapmap.Unpack(s)
		if want := isPack(s) && countOf(s) <= 65536; ok != want {
			t.Fatalf("Unpack(%q) = %.100q, %v", s, text, ok)
		}
		if !ok {
			isNone(t, s)
			continue
		}
		found++
		packs(t, text, s)
		if len(text) != countOf(s) || strings.ContainsAny(text, "0123456789") {
			t.Errorf("Unpack(%q) = %.100q", s, text)
		}
	}
	if found < 500 {
		t.Errorf("%d are in form", found)
	}
}

// countOf is how many signs a text in form tells of.
func countOf(s string) int {
	n, count := 0, ""
	for _, sign := range s {
		if sign >= '0' && sign <= '9' {
			count += string(sign)
			continue
		}
		one, e := strconv.Atoi(count)
		if e != nil {
			one = 1
		}
		n, count = n+one, ""
	}
	return n
}

// P22.2: many texts come back, and each has a Pack of its own.
func TestManyTexts(t *testing.T) {
	seed := uint32(7)
	next := func(n int) int {
		seed = seed*1664525 + 1013904223
		return int(seed>>8) % n
	}
	from := map[string]string{}
	for i := range 5000 {
		var b, want strings.Builder
		ahead := byte(0)
		for range next(12) {
			sign := ".sp-\xff\n"[next(6)]
			n := []int{1, 1, 2, 9, 10, 1 + next(300)}[next(6)]
			if sign == ahead {
				continue
			}
			ahead = sign
			b.WriteString(strings.Repeat(string([]byte{sign}), n))
			if n > 1 {
				fmt.Fprint(&want, n)
			}
			want.WriteByte(sign)
		}
		both(t, b.String(), want.String())
		if other, has := from[want.String()]; has && other != b.String() {
			t.Fatalf("%d: %q and %q have one Pack", i, other, b.String())
		}
		from[want.String()] = b.String()
	}
}

// P22.2: what the machine's calls tell comes back, if it has no digit.
func TestPackOfFrames(t *testing.T) {
	m := made(t, line(2, 1024, 0, 1))
	malloc(t, m, 0, 64)
	touch(t, m, 0, malloc(t, m, 0, 1024), 3, 4, 5)
	both(t, heapmap.Frames(m, 0), "4s3p1017.")
	both(t, heapmap.Frames(m, 1), "1024.")
	packs(t, heapmap.Pages(m), "")
}
