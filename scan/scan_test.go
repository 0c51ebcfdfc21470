package scan_test

import (
	"bytes"
	"fmt"
	"math"
	"math/big"
	"regexp"
	"slices"
	"strings"
	"testing"

	"haulier/api"
	"haulier/scan"
)

// lcg is a row of numbers that are spread out, the same in each run.
type lcg uint64

func (s *lcg) below(n int) int {
	*s = *s*6364136223846793005 + 1442695040888963407
	// The low bits of such a row repeat soon: only the high ones are taken.
	return int(uint64(*s) >> 33 % uint64(n))
}

func sameLines(a, b [][]int) bool { return slices.EqualFunc(a, b, slices.Equal[[]int]) }

func cloneLines(l [][]int) [][]int {
	var clone [][]int
	for _, line := range l {
		clone = append(clone, slices.Clone(line))
	}
	return clone
}

// withoutEmpty is l without lines that have no numbers.
func withoutEmpty(l [][]int) [][]int {
	return slices.DeleteFunc(cloneLines(l), func(line []int) bool { return len(line) == 0 })
}

// short is a text as a fault tells it.
func short(text string) string {
	if len(text) > 60 {
		return fmt.Sprintf("%q.. (%d bytes)", text[:60], len(text))
	}
	return fmt.Sprintf("%q", text)
}

func mustRead(t *testing.T, text string, want ...[]int) {
	t.Helper()
	if got, err := scan.Lines([]byte(text)); err != api.OK || !sameLines(got, want) {
		t.Errorf("Lines(%s): %v, %d; want %v", short(text), got, err, want)
	}
}

// mustRefuse asks for noughts beside the error, too.
func mustRefuse(t *testing.T, text string, want api.Errno) {
	t.Helper()
	if got, err := scan.Lines([]byte(text)); err != want || len(got) != 0 {
		t.Errorf("Lines(%s): %v, %d; want none, %d", short(text), got, err, want)
	}
}

func mustPrint(t *testing.T, l [][]int, want string) {
	t.Helper()
	if got := string(scan.Print(l)); got != want {
		t.Errorf("Print(%v): %q, want %q", l, got, want)
	}
}

// P4.1: ordinary texts, and the examples of the chapter and of the whole.
func TestLines(t *testing.T) {
	mustRead(t, "1 -2  # x\n\n007", []int{1, -2}, []int{7})
	mustRead(t, "1 -2  # x", []int{1, -2})
	mustRead(t, "1 1 5\n0 0 0 0 100 0\n3 0 2 0 50 1\n0 4 -2 0 90 1\n",
		[]int{1, 1, 5}, []int{0, 0, 0, 0, 100, 0}, []int{3, 0, 2, 0, 50, 1}, []int{0, 4, -2, 0, 90, 1})
	mustRead(t, "0123456789 9876543210", []int{123456789, 9876543210})
	mustRead(t, "-1 1 -1 1\n1 -1\n-10", []int{-1, 1, -1, 1}, []int{1, -1}, []int{-10})
}

// P4.1: no text at all, and a nil one.
func TestLinesOfNothing(t *testing.T) {
	if l, err := scan.Lines(nil); err != api.OK || len(l) != 0 {
		t.Errorf("Lines(nil): %v, %d", l, err)
	}
	mustRead(t, "")
}

// P4.1: a last line with and without a line feed.
func TestLastLine(t *testing.T) {
	mustRead(t, "5", []int{5})
	mustRead(t, "5\n", []int{5})
	mustRead(t, "5\n\n", []int{5})
	mustRead(t, "5\n6", []int{5}, []int{6})
	mustRead(t, "5\n6\n", []int{5}, []int{6})
	mustRead(t, "5 ", []int{5})
	mustRead(t, "5 \n", []int{5})
	mustRead(t, "5#", []int{5})
	mustRead(t, "5#\n", []int{5})
	mustRead(t, "5#6\n7", []int{5}, []int{7})
	mustRefuse(t, "5\n-", api.ErrForm)
	mustRefuse(t, "5\n-\n", api.ErrForm)
	mustRefuse(t, "5\nx", api.ErrForm)
	mustRefuse(t, "x\n5", api.ErrForm)
	mustRefuse(t, "5\nx\n5", api.ErrForm)
}

// P4.1: lines that have no numbers are none of the answer's, wherever they stand.
func TestLinesWithoutNumbers(t *testing.T) {
	for _, empty := range []string{"", " ", "    ", "#", " #", "# ", "##", "  # 1 2", "#1", "#-", "#x"} {
		mustRead(t, empty)
		mustRead(t, empty+"\n")
		mustRead(t, empty+"\n"+empty)
		mustRead(t, empty+"\n3 4", []int{3, 4})
		mustRead(t, "3 4\n"+empty, []int{3, 4})
		mustRead(t, "3 4\n"+empty+"\n-5\n"+empty+"\n", []int{3, 4}, []int{-5})
	}
	mustRead(t, strings.Repeat("\n", api.MaxText))
	mustRead(t, strings.Repeat(" ", api.MaxText))
	mustRead(t, strings.Repeat("#", api.MaxText))
}

// P4.1: a # ends what is looked at of a line, and nothing of the next one.
func TestHash(t *testing.T) {
	mustRead(t, "1#2", []int{1})
	mustRead(t, "1 #2", []int{1})
	mustRead(t, "1 # 2", []int{1})
	mustRead(t, "-1#-2\n-3", []int{-1}, []int{-3})
	mustRead(t, "#1\n2", []int{2})
	mustRead(t, "# 1\n 2", []int{2})
	mustRead(t, "1##2#3\n4", []int{1}, []int{4})
	mustRead(t, "12#3\n#\n45", []int{12}, []int{45})
	mustRead(t, "1# 1234567890123 -- +", []int{1})
	mustRead(t, "999999999999#9", []int{999999999999})
	mustRefuse(t, "-#1", api.ErrForm)
	mustRefuse(t, "1 -#", api.ErrForm)
	mustRefuse(t, "#\nx", api.ErrForm)
	mustRefuse(t, "x#", api.ErrForm)
}

// P4.1: one or more spaces between numbers, and any ahead of the first and behind the last.
func TestSpaces(t *testing.T) {
	for _, n := range []int{0, 1, 2, 3, 17} {
		ahead := strings.Repeat(" ", n)
		for _, m := range []int{1, 2, 3, 17} {
			between := strings.Repeat(" ", m)
			mustRead(t, ahead+"1"+between+"-2"+between+"3"+ahead, []int{1, -2, 3})
			mustRead(t, ahead+"1"+between+"-2"+ahead+"\n"+ahead+"0"+ahead+"#", []int{1, -2}, []int{0})
		}
	}
	mustRead(t, "12", []int{12})
	mustRead(t, "1 2", []int{1, 2})
	mustRefuse(t, "- 1", api.ErrForm)
	mustRefuse(t, " - ", api.ErrForm)
}

// P4.1: from 1 to 12 digits, noughts ahead of a number among them.
func TestDigits(t *testing.T) {
	for n := 1; n <= 40; n++ {
		for _, d := range []int{0, 1, 9} {
			digits := strings.Repeat(fmt.Sprint(d), n)
			size := 0
			for range min(n, 12) {
				size = 10*size + d
			}
			for _, around := range []string{"", " ", "#", "\n"} {
				if n > 12 {
					mustRefuse(t, digits+around, api.ErrForm)
					mustRefuse(t, "-"+digits+around, api.ErrForm)
					mustRefuse(t, "1 "+digits+around, api.ErrForm)
					continue
				}
				mustRead(t, digits+around, []int{size})
				mustRead(t, "-"+digits+around, []int{-size})
				mustRead(t, "1 "+digits+around, []int{1, size})
			}
		}
	}
	mustRead(t, "000000000001", []int{1})
	mustRead(t, "-000000000001", []int{-1})
	mustRead(t, "000000000000", []int{0})
	mustRead(t, "123456789012 -123456789012", []int{123456789012, -123456789012})
	mustRead(t, "1 999999999999 -999999999999 2", []int{1, 999999999999, -999999999999, 2})
	mustRefuse(t, "0000000000001", api.ErrForm)
	mustRefuse(t, "-0000000000001", api.ErrForm)
	mustRefuse(t, "0000000000000", api.ErrForm)
	mustRefuse(t, "1234567890123", api.ErrForm)
	mustRefuse(t, "9223372036854775807", api.ErrForm)
	mustRefuse(t, "18446744073709551617", api.ErrForm)
}

// P4.1: a minus stands once, right ahead of a digit, and counts for one number.
func TestMinus(t *testing.T) {
	mustRead(t, "-1", []int{-1})
	mustRead(t, "-0", []int{0})
	mustRead(t, "-00 -0 0", []int{0, 0, 0})
	mustRead(t, "-5 5", []int{-5, 5})
	mustRead(t, "-0 5\n5", []int{0, 5}, []int{5})
	mustRead(t, "5 -5 5", []int{5, -5, 5})
	for _, s := range []string{"-", "--", "--1", "-1-", "1-", "1-2", "1--2", "1 -", "- 1", "-\n1", "-\n", "1 - 2", "- -1", "-x", "-+1", "+-1", "---------------1"} {
		mustRefuse(t, s, api.ErrForm)
		mustRefuse(t, s+"\n", api.ErrForm)
		mustRefuse(t, "7\n"+s, api.ErrForm)
	}
}

// P4.1: each byte, alone, on both sides of numbers, and behind a #.
func TestEachByte(t *testing.T) {
	for b := range 256 {
		s := string([]byte{byte(b)})
		if s != "\n" {
			mustRead(t, "1 #"+s, []int{1})
			mustRead(t, "1#"+s+"2"+s+"\n3", []int{1}, []int{3})
			mustRead(t, "#"+s+s)
		}
		if strings.Contains("\n #-0123456789", s) {
			continue
		}
		for _, text := range []string{s, s + s, s + "1", "1" + s, "1" + s + "2", "1 " + s, "1 " + s + " 2", "-" + s, "-1" + s, " " + s, "1\n" + s, s + "\n1", s + "#", "1" + s + "#", "123456789012" + s, "1" + s + "\n"} {
			mustRefuse(t, text, api.ErrForm)
		}
	}
	// Texts that other readers of numbers take.
	for _, text := range []string{"+1", "1\t2", "1\r\n", "1,2", "0x1", "1_0", "1e3", "1.0", ".5", "1;2", "\xef\xbb\xbf1", "\u0661", "\u00a01", "1\v", "1\f2", "1\x00", "\u22121"} {
		mustRefuse(t, text, api.ErrForm)
	}
	mustRead(t, "1# \t\r\x00\x7f\x80\xff\u0661\n2", []int{1}, []int{2})
}

// P4.1, R2: 4096 bytes may be; 4097 are too many, also where they are no text besides.
func TestTooLong(t *testing.T) {
	full := strings.Repeat("1 ", api.MaxText/2)
	mustRead(t, full, slices.Repeat([]int{1}, api.MaxText/2))
	mustRead(t, full[:api.MaxText-1]+"\n", slices.Repeat([]int{1}, api.MaxText/2))
	mustRead(t, strings.Repeat("2\n", api.MaxText/2), slices.Repeat([][]int{{2}}, api.MaxText/2)...)
	mustRead(t, strings.Repeat(" ", api.MaxText-2)+"-7", []int{-7})
	mustRead(t, "7#"+strings.Repeat("x", api.MaxText-2), []int{7})
	mustRefuse(t, full[:api.MaxText-1]+"x", api.ErrForm)
	mustRefuse(t, full[:api.MaxText-1]+"-", api.ErrForm)
	mustRefuse(t, strings.Repeat("1", api.MaxText), api.ErrForm)
	mustRefuse(t, "x"+full[1:], api.ErrForm)

	for _, more := range []string{"", "1", "xx", strings.Repeat("1 ", 5000)} {
		for _, text := range []string{full + " ", full + "1", full + "\n", full + "x", strings.Repeat(" ", api.MaxText+1), strings.Repeat("x", api.MaxText+1), "x" + full, "-" + full, strings.Repeat("\x00", api.MaxText+1), "#" + full, strings.Repeat("\n", api.MaxText+1)} {
			mustRefuse(t, text+more, api.ErrFull)
		}
	}
}

// What a line is, by the chapter's words; a . takes any byte here, as no line has a line feed.
var (
	wholeLine = regexp.MustCompile(`(?s)^ *(-?[0-9]{1,12}( +-?[0-9]{1,12})* *)?(#.*)?$`)
	remark    = regexp.MustCompile(`(?s)#.*$`)
)

// read says what P4.1 says, line by line, by means that scan has not.
func read(text []byte) ([][]int, api.Errno) {
	if len(text) > api.MaxText {
		return nil, api.ErrFull
	}
	var lines [][]int
	for _, line := range bytes.Split(text, []byte("\n")) {
		if !wholeLine.Match(line) {
			return nil, api.ErrForm
		}
		var numbers []int
		for _, word := range strings.Fields(string(remark.ReplaceAll(line, nil))) {
			n, _ := new(big.Int).SetString(word, 10)
			numbers = append(numbers, int(n.Int64()))
		}
		if len(numbers) > 0 {
			lines = append(lines, numbers)
		}
	}
	return lines, api.OK
}

// compare holds a text against the words, and, if it is one, looks at P4.3's second half.
func compare(t *testing.T, text []byte) {
	t.Helper()
	before := bytes.Clone(text)
	got, err := scan.Lines(text)
	if want, wanted := read(before); err != wanted || !sameLines(got, want) {
		t.Fatalf("Lines(%s): %v, %d; want %v, %d", short(string(text)), got, err, want, wanted)
	}
	if !bytes.Equal(text, before) {
		t.Fatalf("Lines made %q of %q", text, before)
	}
	if err != api.OK {
		return
	}
	printed := scan.Print(got)
	if len(printed) > api.MaxText {
		return
	}
	if again, err := scan.Lines(printed); err != api.OK || !sameLines(again, got) {
		t.Fatalf("read %s as %v, printed %q, read again %v, %d", short(string(text)), got, printed, again, err)
	}
}

// P4.1, P4.3: each text of up to 6 bytes of all kinds, held against the words.
func TestEachShortText(t *testing.T) {
	const kinds = " \n#-07x"
	var text []byte
	var longer func()
	longer = func() {
		compare(t, text)
		if len(text) == 6 {
			return
		}
		for i := range len(kinds) {
			text = append(text, kinds[i])
			longer()
			text = text[:len(text)-1]
		}
	}
	longer()
}

// P4.1, P4.3, P1: long texts, most of which are ones, and such of any bytes at all.
func TestTextsSpreadOut(t *testing.T) {
	row := lcg(1)
	pieces := []string{" ", " ", "  ", "\n", "#", "# x\n", "0", "7", "12", "-3", " -45 ", "123456", "\xff", "-", "\t"}
	read := 0
	for turn := range 4000 {
		var text []byte
		// The last pieces make it no text: they come seldom, so that many are ones.
		few := len(pieces) - 3*(turn%2)
		for range row.below(60) {
			text = append(text, pieces[row.below(few)]...)
		}
		compare(t, text)
		if _, err := scan.Lines(text); err == api.OK {
			read++
		}
	}
	if read < 500 {
		t.Errorf("only %d of these were texts", read)
	}
	for range 2000 {
		text := make([]byte, row.below(12))
		for i := range text {
			text[i] = byte(row.below(256))
		}
		compare(t, text)
	}
	for range 200 {
		text := make([]byte, api.MaxText-3+row.below(7))
		for i := range text {
			text[i] = "1 \n"[row.below(3)]
			if i%12 == 0 {
				text[i] = ' '
			}
		}
		compare(t, text)
	}
}

// P4.2: ordinary lines, lines without numbers, and the edges of int.
func TestPrint(t *testing.T) {
	mustPrint(t, nil, "")
	mustPrint(t, [][]int{}, "")
	mustPrint(t, [][]int{nil}, "")
	mustPrint(t, [][]int{{}}, "")
	mustPrint(t, [][]int{{}, nil, {}}, "")
	mustPrint(t, [][]int{{0}}, "0\n")
	mustPrint(t, [][]int{{7}}, "7\n")
	mustPrint(t, [][]int{{-7}}, "-7\n")
	mustPrint(t, [][]int{{1, -2}, {7}}, "1 -2\n7\n")
	mustPrint(t, [][]int{{1, -2}, {}, {0}, nil, {10, 200, 3000}}, "1 -2\n0\n10 200 3000\n")
	mustPrint(t, [][]int{{}, {3}, {}}, "3\n")
	mustPrint(t, [][]int{{0, 0, 0}, {0}}, "0 0 0\n0\n")
	mustPrint(t, [][]int{{-1, -10, -100}, {9, 99, 999}}, "-1 -10 -100\n9 99 999\n")
	mustPrint(t, [][]int{{999999999999, -999999999999, 1000000000000}}, "999999999999 -999999999999 1000000000000\n")
	mustPrint(t, [][]int{{math.MinInt, math.MaxInt}}, "-9223372036854775808 9223372036854775807\n")
	mustPrint(t, [][]int{{math.MinInt}, {math.MinInt + 1}, {math.MaxInt}, {math.MaxInt - 1}},
		"-9223372036854775808\n-9223372036854775807\n9223372036854775807\n9223372036854775806\n")
}

// P4.2: numbers of every size, held against another printer.
func TestPrintSpreadOut(t *testing.T) {
	for shift := range 63 {
		for _, by := range []int{-1, 0, 1} {
			n := 1<<shift + by
			mustPrint(t, [][]int{{n, -n}}, fmt.Sprintf("%d %d\n", n, -n))
		}
	}
	row := lcg(2)
	for range 300 {
		l := spreadLines(&row, 63)
		var want strings.Builder
		for _, line := range withoutEmpty(l) {
			want.WriteString(strings.Trim(fmt.Sprint(line), "[]") + "\n")
		}
		mustPrint(t, l, want.String())
	}
}

// P4.2: Print has no limit of its own.
func TestPrintLong(t *testing.T) {
	mustPrint(t, [][]int{slices.Repeat([]int{5}, 10000)}, strings.Repeat("5 ", 9999)+"5\n")
	mustPrint(t, slices.Repeat([][]int{{5}}, 10000), strings.Repeat("5\n", 10000))
}

// spreadLines is some few lines of numbers of up to so many bits, some of them without numbers.
func spreadLines(row *lcg, bits int) [][]int {
	var l [][]int
	for range row.below(8) {
		var line []int
		for range row.below(6) {
			n := (row.below(1<<30)<<31 | row.below(1<<30)) >> (63 - 1 - row.below(bits))
			if row.below(2) == 0 {
				n = -n
			}
			line = append(line, n)
		}
		l = append(l, line)
	}
	return l
}

// P4.3: what is printed is read as it was, without lines that have no numbers.
func TestPrintedIsRead(t *testing.T) {
	row := lcg(3)
	for range 2000 {
		// Numbers of 39 bits have at most 12 digits.
		l := spreadLines(&row, 39)
		mustRead(t, string(scan.Print(l)), withoutEmpty(l)...)
	}
	for _, l := range [][][]int{nil, {}, {{}}, {nil, {0}}, {{0}, {}, {-1}}, {{999999999999, -999999999999}, {}, {100000000000}}, {slices.Repeat([]int{-1}, 1365)}, slices.Repeat([][]int{{4}}, 2048)} {
		mustRead(t, string(scan.Print(l)), withoutEmpty(l)...)
	}
}

// P4.3: its two conditions: numbers of more than 12 digits, and too long a text, are refused.
func TestPrintedIsNotRead(t *testing.T) {
	for _, n := range []int{1000000000000, -1000000000000, math.MinInt, math.MaxInt} {
		mustRefuse(t, string(scan.Print([][]int{{1}, {n}})), api.ErrForm)
	}
	mustRefuse(t, string(scan.Print(slices.Repeat([][]int{{4}}, 2049))), api.ErrFull)
}

// P4.3: what is read is printed as something that is read the same.
func TestReadIsPrinted(t *testing.T) {
	for text, want := range map[string]string{
		"1 -2  # x\n\n007":            "1 -2\n7\n",
		"":                            "",
		"#":                           "",
		" \n\n # 4\n":                 "",
		"-0 00 -000":                  "0 0 0\n",
		"  000000000012   -03#4\n5  ": "12 -3\n5\n",
		"999999999999 -999999999999":  "999999999999 -999999999999\n",
	} {
		l, err := scan.Lines([]byte(text))
		if err != api.OK {
			t.Errorf("Lines(%q): %d", text, err)
		}
		mustPrint(t, l, want)
		mustRead(t, want, l...)
	}
}

// P4.3, at MaxText: all that Print may add to a text is the last line feed, so only what is 4096 bytes
// without it is printed as one byte too many, and that is refused, as P4.1 says.
func TestReadIsPrintedAtMaxText(t *testing.T) {
	whole := strings.Repeat("1 ", api.MaxText/2-1) + "1\n"
	l, err := scan.Lines([]byte(whole))
	if err != api.OK || string(scan.Print(l)) != whole {
		t.Errorf("a text of %d bytes is not printed as it was, %d", len(whole), err)
	}
	l, err = scan.Lines([]byte("1" + whole[:api.MaxText-1]))
	if err != api.OK {
		t.Fatalf("a text of %d bytes: %d", api.MaxText, err)
	}
	printed := string(scan.Print(l))
	if printed != "1"+whole {
		t.Errorf("Print: %s", short(printed))
	}
	mustRefuse(t, printed, api.ErrFull)
}

// R3: what is handed in stays as it was, and later changes to it change nothing of the answer.
func TestArgumentsAndAnswersAreApart(t *testing.T) {
	text := []byte("1 -2 3\n4 # x\n\n5 6")
	room := append(slices.Clone(text), "789"...)
	want := [][]int{{1, -2, 3}, {4}, {5, 6}}
	l, err := scan.Lines(room[:len(text)])
	if err != api.OK || !sameLines(l, want) || string(room) != string(text)+"789" {
		t.Fatalf("Lines: %v, %d; its text is %q", l, err, room)
	}
	for i := range room {
		room[i] = '9'
	}
	if !sameLines(l, want) {
		t.Errorf("a change of the text made the answer %v", l)
	}

	before := cloneLines(l)
	printed := scan.Print(l)
	if !sameLines(l, before) {
		t.Errorf("Print made %v of %v", l, before)
	}
	wanted := string(printed)
	for _, line := range l {
		for i := range line {
			line[i] = 8
		}
	}
	if string(printed) != wanted {
		t.Errorf("a change of the lines made the text %q", printed)
	}
	for i := range printed[:cap(printed)] {
		printed[:cap(printed)][i] = 'x'
	}
	if again := string(scan.Print(before)); again != wanted {
		t.Errorf("a change of the text made the next one %q", again)
	}
}

// R3: no two lines of an answer share anything, not even what stands behind their ends; nor do two answers.
func TestLinesShareNothing(t *testing.T) {
	text := []byte("1 2 3 4 5\n6\n7 8\n\n9 10 11")
	want := [][]int{{1, 2, 3, 4, 5}, {6}, {7, 8}, {9, 10, 11}}
	for k := range want {
		l, _ := scan.Lines(text)
		again, _ := scan.Lines(text)
		if !sameLines(l, want) || !sameLines(again, want) {
			t.Fatalf("Lines: %v, %v", l, again)
		}
		line := l[k][:cap(l[k])]
		for i := range line {
			line[i] = -1
		}
		for j := range l {
			if j != k && !slices.Equal(l[j], want[j]) {
				t.Errorf("a change of line %d made line %d %v", k, j, l[j])
			}
		}
		if !sameLines(again, want) {
			t.Errorf("a change of one answer made another one %v", again)
		}
	}
}

// R5: no answer hangs on what was asked before, also where that was refused in the middle of a number.
func TestAskedAgain(t *testing.T) {
	for _, ahead := range []string{"-", "12", "1 2\n3x", "-12345678901234", "1 2 -", "# x", "7 8\n9"} {
		scan.Lines([]byte(ahead))
		scan.Print([][]int{{5, 6}})
		mustRead(t, "1 -2\n3", []int{1, -2}, []int{3})
		mustPrint(t, [][]int{{4}}, "4\n")
	}
}
