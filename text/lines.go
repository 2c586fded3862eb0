package text

import (
	"strconv"
	"strings"

	"syncope/api"
)

// shape is how the lines of an op look: their word, and the fields that stand behind it, a letter each.
type shape struct {
	word   string
	op     int
	b      int // what B is, where no field tells it
	fields string
}

var shapes = [...]shape{
	{"set", api.OSet, 0, "AN"},
	{"add", api.OAdd, 0, "ABC"},
	{"sub", api.OSub, 0, "ABC"},
	{"mul", api.OMul, 0, "ABC"},
	{"xor", api.OXor, 0, "ABC"},
	{"less", api.OLess, 0, "ABC"},
	{"same", api.OSame, 0, "ABC"},
	{"load", api.OLoad, 0, "ABN"},
	{"store", api.OStore, 0, "ABN"},
	{"take", api.OTake, 0, "BN"},
	{"give", api.OGive, 0, "BN"},
	{"log", api.OLog, 0, "A"},
	{"enter", api.OEnter, 0, "A"},
	{"read", api.OEnter, 1, "A"},
	{"leave", api.OLeave, 0, ""},
	{"wait", api.OWait, 0, "A"},
	{"signal", api.OSignal, 0, "A"},
	{"cast", api.OCast, 0, "A"},
	{"if", api.OIf, 0, "A"},
	{"else", api.OElse, 0, ""},
	{"end", api.OEnd, 0, ""},
	{"loop", api.OLoop, 0, "A"},
	{"back", api.OBack, 0, ""},
}

// fits tells whether an instruction that may be is one of this shape.
func (s shape) fits(in api.Instr) bool {
	return s.op == in.Op && (s.b == in.B || strings.Contains(s.fields, "B"))
}

// spell is the line of an instruction that may be.
func spell(in api.Instr) string {
	for _, s := range shapes {
		if !s.fits(in) {
			continue
		}
		line := s.word
		for _, field := range s.fields {
			line += " " + strconv.FormatInt(get(in, field), 10)
		}
		return line
	}
	return ""
}

// instr is what a line says. An instruction has but one line: by that a line with a blank, a nought, a sign or a number that it should not have gives itself away.
func instr(line string) (api.Instr, bool) {
	words := strings.Split(line, " ")
	for _, s := range shapes {
		if s.word != words[0] {
			continue
		}
		in, ok := s.filled(words[1:])
		if own, may := Line(in); ok && may && own == line {
			return in, true
		}
	}
	return api.Instr{}, false
}

// filled is the instruction of this shape whose fields are these numbers.
func (s shape) filled(numbers []string) (api.Instr, bool) {
	in := api.Instr{Op: s.op, B: s.b}
	if len(numbers) != len(s.fields) {
		return in, false
	}
	for i, field := range s.fields {
		n, err := strconv.ParseInt(numbers[i], 10, 64)
		if err != nil {
			return in, false
		}
		put(&in, field, n)
	}
	return in, true
}

// get is the field of a letter.
func get(in api.Instr, field rune) int64 {
	switch field {
	case 'A':
		return int64(in.A)
	case 'B':
		return int64(in.B)
	case 'C':
		return int64(in.C)
	}
	return in.N
}

// put makes the field of a letter n.
func put(in *api.Instr, field rune, n int64) {
	switch field {
	case 'A':
		in.A = int(n)
	case 'B':
		in.B = int(n)
	case 'C':
		in.C = int(n)
	default:
		in.N = n
	}
}
