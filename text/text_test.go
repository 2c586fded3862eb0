package text_test

import (
	"errors"
	"math"
	"math/big"
	"regexp"
	"slices"
	"strings"
	"testing"

	"syncope/api"
	"syncope/blame"
	"syncope/eval"
	"syncope/text"
)

// in is an instruction.
func in(op, a, b, c int, n int64) api.Instr { return api.Instr{Op: op, A: a, B: b, C: c, N: n} }

// said is an instruction and its line.
type said struct {
	in   api.Instr
	line string
}

// all is each kind of line, its fields told apart, and the numbers at their limits.
func all() []said {
	return []said{
		{in(api.OSet, 0, 0, 0, 5), "set 0 5"},
		{in(api.OSet, 3, 0, 0, math.MinInt64), "set 3 -9223372036854775808"},
		{in(api.OSet, 2, 0, 0, math.MaxInt64), "set 2 9223372036854775807"},
		{in(api.OSet, 1, 0, 0, 0), "set 1 0"},
		{in(api.OAdd, 1, 2, 3, 0), "add 1 2 3"},
		{in(api.OSub, 3, 0, 1, 0), "sub 3 0 1"},
		{in(api.OMul, 0, 1, 2, 0), "mul 0 1 2"},
		{in(api.OXor, 2, 3, 0, 0), "xor 2 3 0"},
		{in(api.OLess, 1, 0, 2, 0), "less 1 0 2"},
		{in(api.OSame, 0, 3, 1, 0), "same 0 3 1"},
		{in(api.OLoad, 2, 1, 0, 7), "load 2 1 7"},
		{in(api.OLoad, 0, 3, 0, -1), "load 0 3 -1"},
		{in(api.OStore, 1, 3, 0, -70), "store 1 3 -70"},
		{in(api.OTake, 0, 2, 0, 10), "take 2 10"},
		{in(api.OGive, 0, 1, 0, 2000), "give 1 2000"},
		{in(api.OLog, 3, 0, 0, 0), "log 3"},
		{in(api.OEnter, 2, 0, 0, 0), "enter 2"},
		{in(api.OEnter, 1, 1, 0, 0), "read 1"},
		{in(api.OEnter, 0, 1, 0, 0), "read 0"},
		{in(api.OLeave, 0, 0, 0, 0), "leave"},
		{in(api.OWait, 3, 0, 0, 0), "wait 3"},
		{in(api.OSignal, 1, 0, 0, 0), "signal 1"},
		{in(api.OCast, 2, 0, 0, 0), "cast 2"},
		{in(api.OIf, 1, 0, 0, 0), "if 1"},
		{in(api.OElse, 0, 0, 0, 0), "else"},
		{in(api.OEnd, 0, 0, 0, 0), "end"},
		{in(api.OLoop, 2, 0, 0, 0), "loop 2"},
		{in(api.OBack, 0, 0, 0, 0), "back"},
	}
}

// grid is instructions of all ops, and some that are none, with all sorts of fields.
func grid() []api.Instr {
	var list []api.Instr
	fields := []int{math.MinInt, -1, 0, 1, 2, 3, 4, 9, 10, 1 << 32, math.MaxInt}
	for _, op := range append(ops(), math.MinInt, -1, 0, 23, 24, 256+api.OSet, math.MaxInt) {
		for _, a := range fields {
			for _, b := range fields {
				for _, c := range fields {
					for _, n := range []int64{math.MinInt64, -10, -1, 0, 1, 7, math.MaxInt64} {
						list = append(list, in(op, a, b, c, n))
					}
				}
			}
		}
	}
	return list
}

func ops() []int {
	var list []int
	for op := 1; op <= 22; op++ {
		list = append(list, op)
	}
	return list
}

// 5.1

func TestLine(t *testing.T) {
	for _, s := range all() {
		if line, ok := text.Line(s.in); line != s.line || !ok {
			t.Errorf("Line(%v) = %q, %v, not %q", s.in, line, ok, s.line)
		}
	}
}

func TestLineOfWhatMayNotBe(t *testing.T) {
	for _, i := range grid() {
		line, ok := text.Line(i)
		if ok != eval.May(i) || ok != (line != "") || strings.Contains(line, "\n") {
			t.Errorf("Line(%v) = %q, %v", i, line, ok)
		}
	}
}

func TestPrint(t *testing.T) {
	var p []api.Instr
	want := ""
	for range 100 { // more instructions than a program may have
		for _, s := range all() {
			p = append(p, s.in)
			want += s.line + "\n"
		}
	}
	kept := slices.Clone(p)
	if got, ok := text.Print(p); got != want || !ok {
		t.Errorf("Print of %d instructions: %d bytes, %v, not %d", len(p), len(got), ok, len(want))
	}
	if !slices.Equal(p, kept) {
		t.Error("Print changes what it is handed")
	}
	if got, ok := text.Print(p[:1]); got != "set 0 5\n" || !ok {
		t.Errorf("Print of one: %q, %v", got, ok)
	}
}

func TestPrintOfNothing(t *testing.T) {
	for _, p := range [][]api.Instr{nil, {}} {
		if got, ok := text.Print(p); got != "" || !ok {
			t.Errorf("Print = %q, %v", got, ok)
		}
	}
}

func TestPrintOfWhatHasNoLine(t *testing.T) {
	fine := in(api.OLeave, 0, 0, 0, 0)
	for _, bad := range []api.Instr{{}, {Op: 23}, {Op: api.OLog, A: 4}, {Op: api.OEnter, B: 2}, {Op: api.OLeave, N: 1}, {Op: api.OTake, A: 1}} {
		for at := range 3 {
			p := []api.Instr{fine, fine, fine}
			p[at] = bad
			if got, ok := text.Print(p); got != "" || ok {
				t.Errorf("Print(%v) = %q, %v", p, got, ok)
			}
		}
	}
}

// 5.2

func TestParseOfEachLine(t *testing.T) {
	for _, s := range all() {
		for _, end := range []string{"", "\n", "\n\n\n"} {
			if p, err := text.Parse(s.line + end); err != nil || !slices.Equal(p, []api.Instr{s.in}) {
				t.Errorf("Parse(%q) = %v, %v", s.line+end, p, err)
			}
		}
	}
}

func TestParse(t *testing.T) {
	for _, c := range []struct {
		s    string
		want []api.Instr
	}{
		{"", nil},
		{"\n", nil},
		{"\n\n\n", nil},
		{"leave", []api.Instr{{Op: api.OLeave}}},
		{"leave\nleave", []api.Instr{{Op: api.OLeave}, {Op: api.OLeave}}},
		{"\n\nloop 1\n\nback\nlog 2\n\n", []api.Instr{{Op: api.OLoop, A: 1}, {Op: api.OBack}, {Op: api.OLog, A: 2}}},
		{"end\nelse\nback\nwait 3", []api.Instr{{Op: api.OEnd}, {Op: api.OElse}, {Op: api.OBack}, {Op: api.OWait, A: 3}}}, // how they stand is check's to ask
	} {
		if p, err := text.Parse(c.s); err != nil || !slices.Equal(p, c.want) {
			t.Errorf("Parse(%q) = %v, %v", c.s, p, err)
		}
	}
}

// refused holds that Parse tells one error, with nothing beside it.
func refused(t *testing.T, s string, code, line int) {
	t.Helper()
	name := s
	if len(name) > 40 {
		name = name[:20] + " .. " + name[len(name)-20:]
	}
	p, err := text.Parse(s)
	thread, place, ok := blame.Where(err)
	if len(p) != 0 || !errors.Is(err, blame.New(code)) || blame.Code(err) != code || thread != -1 || place != line || !ok {
		t.Errorf("Parse(%q) = %v, %v, not code %d at line %d", name, p, err, code, line)
	}
	if at, ok := err.(*blame.At); !ok || at.Err != blame.New(code) {
		t.Errorf("Parse(%q) wraps %v", name, err)
	}
}

// wrongLines is lines that are none.
func wrongLines() []string {
	return []string{
		" ", "  ", "\t", "\r", "\x00", "x", "-", "0", "7 set",
		"Set 0 1", "SET 0 1", "sets 0 1", "se 0 1", "set0 1", "set\t0 1", "set,0,1",
		"set", "set 0", "set 0 1 2", "add 0 1", "add 0 1 2 3", "load 0 1", "load 0 1 2 3", "take 1", "take 0 1 2", "give 1", "log", "log 0 0",
		"enter", "enter 0 0", "enter 0 1", "read", "read 0 1", "wait", "signal", "cast", "if", "loop", "if 0 0", "loop 0 1",
		"leave 0", "else 0", "end 0", "back 0", "leave x",
		" set 0 1", "set  0 1", "set 0  1", "set 0 1 ", "leave ", " leave", "set 0 1\r", "leave\r", "leave\x00", "set 0 1\v", "set\u00a00 1",
		"set 00 1", "set 0 01", "set 0 00", "set 0 -0", "set 0 -01", "set 0 +1", "set 0 --1", "set 0 -", "set 0 - 1", "set -0 1", "set +0 1",
		"set 0 1.0", "set 0 1e3", "set 0 0x1", "set 0 1_000", "set 0 ٣", "set 0 １", "set 0 a", "set a 1", "set 0 ", "set  1",
		"set 0 9223372036854775808", "set 0 -9223372036854775809", "set 0 18446744073709551616", "set 0 99999999999999999999999", "load 0 0 9223372036854775808",
		"set 4 1", "set 9 1", "set 10 1", "set -1 1", "set 4294967296 1", "set 18446744073709551616 1", "add 4 0 0", "add 0 4 0", "add 0 0 4", "same 0 0 -1",
		"load 4 0 1", "load 0 4 1", "store 0 -1 1", "take 4 0", "give 4 0", "log 4", "enter 4", "read 4", "enter -1", "wait 4", "signal 4", "cast 4", "if 4", "loop 4", "loop 10",
		"set 0 1 # five", "# set 0 1", "set 0 1;leave", "\"leave\"", "\xff", "leave\xff", "\ufeffleave",
	}
}

func TestParseOfWrongLines(t *testing.T) {
	for _, s := range wrongLines() {
		refused(t, s, api.ErrText, 1)
		refused(t, s+"\nleave", api.ErrText, 1)
		refused(t, "leave\n\n"+s+"\nx", api.ErrText, 3)
		refused(t, "\n\n\nset 0 1\n"+s+"\n\n", api.ErrText, 5)
	}
}

// form is how a line must look; how large N may be is asked apart.
var form = regexp.MustCompile(`^(?:(?:set [0-3]|(?:load|store) [0-3] [0-3]|(?:take|give) [0-3]) (0|-?[1-9][0-9]*)|(?:add|sub|mul|xor|less|same) [0-3] [0-3] [0-3]|(?:log|enter|read|wait|signal|cast|if|loop) [0-3]|leave|else|end|back)$`)

// isLine tells it by the chapter's words alone.
func isLine(s string) bool {
	found := form.FindStringSubmatch(s)
	if found == nil {
		return false
	}
	if found[1] == "" {
		return true
	}
	n, _ := new(big.Int).SetString(found[1], 10)
	return n.IsInt64()
}

// TestParseOfAllNearLines: each line with up to two bytes less, and up to one byte more, anywhere.
func TestParseOfAllNearLines(t *testing.T) {
	some := []byte(" -+01345789_.xadeglnrst\t\r\x00\xff")
	for _, s := range all() {
		for at := range len(s.line) + 1 {
			for cut := range min(3, len(s.line)+1-at) {
				compare(t, s.line[:at]+s.line[at+cut:])
				for _, b := range some {
					compare(t, s.line[:at]+string([]byte{b})+s.line[at+cut:])
				}
			}
		}
	}
}

// compare holds Parse of one line against the chapter's words, and what it reads against what Line writes.
func compare(t *testing.T, line string) {
	t.Helper()
	switch {
	case line == "":
	case !isLine(line):
		refused(t, line, api.ErrText, 1)
	default:
		p, err := text.Parse(line)
		if err != nil || len(p) != 1 {
			t.Errorf("Parse(%q) = %v, %v", line, p, err)
			return
		}
		if again, ok := text.Line(p[0]); again != line || !ok {
			t.Errorf("%q is read as %v, which is %q", line, p[0], again)
		}
	}
}

func TestParseOfAsManyAsMayBe(t *testing.T) {
	many := strings.Repeat("leave\n", api.MaxProg)
	for _, s := range []string{many, strings.TrimSuffix(many, "\n"), many + "\n\n\n", "\n\n" + many} {
		if p, err := text.Parse(s); err != nil || len(p) != api.MaxProg {
			t.Errorf("Parse of %d instructions: %d, %v", api.MaxProg, len(p), err)
		}
	}
	refused(t, many+"log 1", api.ErrLarge, api.MaxProg+1)
	refused(t, many+"log 1\n", api.ErrLarge, api.MaxProg+1)
	refused(t, many+"\n\nlog 1\nlog 2\n\nlog 3", api.ErrLarge, api.MaxProg+3)
	refused(t, "\n"+strings.ReplaceAll(many, "\n", "\n\n")+"leave\n", api.ErrLarge, 2*api.MaxProg+2)
	refused(t, many+many, api.ErrLarge, api.MaxProg+1)
}

// TestWrongLinesAreToldAheadOfTooMany: of several errors the one that the chapter names first is told, wherever the others are.
func TestWrongLinesAreToldAheadOfTooMany(t *testing.T) {
	many := strings.Repeat("leave\n", api.MaxProg)
	refused(t, "x\n"+many+many, api.ErrText, 1)
	refused(t, many+"x", api.ErrText, api.MaxProg+1)
	refused(t, many+" \nlog 1", api.ErrText, api.MaxProg+1)
	refused(t, many+"log 1\nx\ny", api.ErrText, api.MaxProg+2)
	refused(t, many+"log 1\n\nlog 4", api.ErrText, api.MaxProg+3)
}

func TestParseOfLongTexts(t *testing.T) {
	if p, err := text.Parse(strings.Repeat("\n", api.MaxText)); err != nil || len(p) != 0 {
		t.Errorf("Parse of %d ends: %v, %v", api.MaxText, p, err)
	}
	if p, err := text.Parse(strings.Repeat("\n", api.MaxText-5) + "leave"); err != nil || len(p) != 1 {
		t.Errorf("Parse of %d bytes: %v, %v", api.MaxText, p, err)
	}
	refused(t, strings.Repeat("\n", api.MaxText-1)+"x", api.ErrText, api.MaxText)
	refused(t, strings.Repeat(" ", api.MaxText), api.ErrText, 1)
	refused(t, "set 0 "+strings.Repeat("1", api.MaxText-6), api.ErrText, 1)
	refused(t, strings.Repeat("\n", api.MaxText+1), api.ErrLarge, 0)
	refused(t, strings.Repeat("\n", api.MaxText-4)+"leave", api.ErrLarge, 0)
	refused(t, "x"+strings.Repeat("\n", api.MaxText), api.ErrLarge, 0)
	refused(t, strings.Repeat("leave\n", api.MaxText), api.ErrLarge, 0)
	refused(t, strings.Repeat("é", api.MaxText/2)+"\n", api.ErrLarge, 0) // it is bytes that are counted
	refused(t, strings.Repeat("é", api.MaxText/2), api.ErrText, 1)
}

func TestParseAnswersTheCallersOwn(t *testing.T) {
	const s = "set 0 1\nlog 0"
	first, _ := text.Parse(s)
	first[0], first[1] = api.Instr{}, api.Instr{}
	if second, err := text.Parse(s); err != nil || !slices.Equal(second, []api.Instr{{Op: api.OSet, N: 1}, {Op: api.OLog}}) {
		t.Errorf("Parse = %v, %v", second, err)
	}
}

// 5.3

// TestWhatIsPrintedIsReadAsItWas: all that may be, as many at once as a program has.
func TestWhatIsPrintedIsReadAsItWas(t *testing.T) {
	var list []api.Instr
	for _, i := range grid() {
		if eval.May(i) {
			list = append(list, i)
		}
	}
	if len(list) < 500 {
		t.Fatalf("only %d instructions", len(list))
	}
	for p := range slices.Chunk(list, api.MaxProg) {
		printed, ok := text.Print(p)
		if read, err := text.Parse(printed); !ok || err != nil || !slices.Equal(read, p) {
			t.Errorf("%v is printed as %q, %v, read as %v, %v", p, printed, ok, read, err)
		}
	}
}

// TestInstructionsHaveLinesOfTheirOwn: no two are printed as one.
func TestInstructionsHaveLinesOfTheirOwn(t *testing.T) {
	whose := map[string]api.Instr{}
	for _, i := range grid() {
		line, ok := text.Line(i)
		if !ok {
			continue
		}
		if other, met := whose[line]; met && other != i {
			t.Errorf("%q is the line of %v and of %v", line, other, i)
		}
		whose[line] = i
	}
}
