package asm_test

import (
	"math"
	"math/big"
	"regexp"
	"slices"
	"strconv"
	"strings"
	"testing"

	"respite/api"
	"respite/asm"
)

const (
	most  = math.MaxInt
	least = math.MinInt
)

// shapes are the operations' names and kinds of operands, told apart from the program's own.
func shapes() []string {
	return []string{
		"halt", "set r n", "move r r", "plus r r n", "mask r r n", "add r r r", "sub r r r", "and r r r", "xor r r r", "less r r r",
		"jump t", "zero r t", "some r t", "call t", "ret", "self r", "load r r n", "store r r n", "fence", "cas r r r", "xchg r r",
		"fetch r r", "broad", "wait r r", "own r r", "drop r r", "mark n",
	}
}

// edges are the least and the greatest of what an operand of a kind may be, in code of so many instructions.
func edges(kind string, many int) (int, int) {
	switch kind {
	case "r":
		return 0, 7
	case "n":
		return -1000000000, 1000000000
	case "t":
		return 0, many
	}
	return 0, 0
}

// kindsOf are the kinds of an operation's three operands; "" where it has none.
func kindsOf(op int) [3]string {
	var all [3]string
	copy(all[:], strings.Fields(shapes()[op])[1:])
	return all
}

func with(op int, v [3]int) api.Instr { return api.Instr{Op: op, A: v[0], B: v[1], C: v[2]} }

// repeated is a text of a line so often.
func repeated(line string, n int) string { return strings.Repeat(line+"\n", n) }

// text is one of these lines.
func text(lines ...string) string { return strings.Join(append(lines, ""), "\n") }

// check holds what a text tells against what it must.
func check(t *testing.T, text string, code []api.Instr, line int, why api.Errno) {
	t.Helper()
	c, n, e := asm.Parse(text)
	if n != line || e != why || !slices.Equal(c, code) {
		t.Errorf("Parse of %.60q tells %v, %d, %d, and not %v, %d, %d", text, c, n, e, code, line, why)
	}
}

// wrong checks texts that are not right, each with the number of its line, and why.
func wrong(t *testing.T, line int, why api.Errno, texts ...string) {
	t.Helper()
	for _, s := range texts {
		check(t, s, nil, line, why)
	}
}

var (
	nameForm     = regexp.MustCompile(`\A[a-z][a-z0-9]{0,11}\z`)
	registerForm = regexp.MustCompile(`\Ar[0-7]\z`)
	numberForm   = regexp.MustCompile(`\A(0|-?[1-9][0-9]*)\z`)
)

// reading is a text as P5.1 is read, word for word: its lines without their ends, and whether the last one is ended.
type reading struct {
	lines []string
	ended bool
}

func readingOf(text string) reading {
	r := reading{ended: true}
	if text == "" {
		return r
	}
	r.lines = strings.Split(text, "\n")
	if strings.HasSuffix(text, "\n") {
		r.lines = r.lines[:len(r.lines)-1]
	} else {
		r.ended = false
	}
	return r
}

// has tells whether an ended line of these is the name's label.
func (r reading) has(upTo int, name string) bool {
	for k, line := range r.lines[:upTo] {
		if line == name+":" && (r.ended || k < len(r.lines)-1) {
			return true
		}
	}
	return false
}

// ahead is how many lines that are no labels stand ahead of the k-th one.
func (r reading) ahead(k int) int {
	n := 0
	for _, line := range r.lines[:k] {
		if !strings.HasSuffix(line, ":") {
			n++
		}
	}
	return n
}

func (r reading) operand(kind, part string) (int, api.Errno) {
	switch {
	case kind == "r" && registerForm.MatchString(part):
		return int(part[1]) - '0', api.OK
	case kind == "n" && numberForm.MatchString(part):
		v, _ := new(big.Int).SetString(part, 10)
		if new(big.Int).Abs(v).Cmp(big.NewInt(1000000000)) <= 0 {
			return int(v.Int64()), api.OK
		}
	case kind == "t" && nameForm.MatchString(part):
		if !r.has(len(r.lines), part) {
			return 0, api.ErrLabel
		}
		return r.ahead(slices.Index(r.lines, part+":")), api.OK
	}
	return 0, api.ErrRange
}

// line is the instruction that the k-th line tells, if it is no label, or why it is not right.
func (r reading) line(k int) (api.Instr, bool, api.Errno) {
	line := r.lines[k]
	if !r.ended && k == len(r.lines)-1 {
		return api.Instr{}, false, api.ErrLine
	}
	if name, is := strings.CutSuffix(line, ":"); is {
		if !nameForm.MatchString(name) {
			return api.Instr{}, false, api.ErrLine
		}
		if r.has(k, name) {
			return api.Instr{}, false, api.ErrLabel
		}
		return api.Instr{}, false, api.OK
	}
	parts := strings.Split(line, " ")
	op := slices.IndexFunc(shapes(), func(s string) bool { return strings.Fields(s)[0] == parts[0] })
	if op < 0 {
		return api.Instr{}, false, api.ErrOp
	}
	kinds := strings.Fields(shapes()[op])[1:]
	if len(kinds) != len(parts)-1 {
		return api.Instr{}, false, api.ErrLine
	}
	var v [3]int
	for n, kind := range kinds {
		var e api.Errno
		if v[n], e = r.operand(kind, parts[n+1]); e != api.OK {
			return api.Instr{}, false, e
		}
	}
	if r.ahead(k) >= 1000 {
		return api.Instr{}, false, api.ErrSize
	}
	return with(op, v), true, api.OK
}

// told is what Parse must tell of a text.
func told(text string) ([]api.Instr, int, api.Errno) {
	if len(text) > 40000 {
		return nil, 0, api.ErrSize
	}
	r := readingOf(text)
	var code []api.Instr
	for k := range r.lines {
		i, is, e := r.line(k)
		if e != api.OK {
			return nil, k + 1, e
		}
		if is {
			code = append(code, i)
		}
	}
	return code, 0, api.OK
}

// dice are numbers that look as if they had no rule.
type dice uint64

func (d *dice) below(n int) int {
	*d = *d*6364136223846793005 + 1442695040888963407
	return int(uint64(*d) >> 33 % uint64(n))
}

// code is one that may be, of so many instructions.
func (d *dice) code(many int) []api.Instr {
	code := make([]api.Instr, many)
	for k := range code {
		op := d.below(27)
		var v [3]int
		for n, kind := range kindsOf(op) {
			low, high := edges(kind, many)
			v[n] = low + d.below(high-low+1)
			if d.below(4) == 0 {
				v[n] = []int{low, high}[d.below(2)]
			}
		}
		code[k] = with(op, v)
	}
	return code
}

// P5.1: operations have the numbers and operands of the table, and each operand may be from its least to its greatest.
func TestRightOperands(t *testing.T) {
	for op := range 27 {
		for many := 1; many <= 3; many++ {
			for n, kind := range kindsOf(op) {
				low, high := edges(kind, many)
				for _, v := range []int{least, least + 1, low - 1, low, low + 1, 0, 1, high - 1, high, high + 1, most - 1, most} {
					var all [3]int
					all[n] = v
					code := make([]api.Instr, many)
					code[many-1] = with(op, all)
					if is := asm.Right(code); is != (v >= low && v <= high) {
						t.Errorf("Right of %v is %v", code, is)
					}
				}
			}
		}
	}
}

// P5.1: all operands are looked at, and those of all instructions.
func TestRightAll(t *testing.T) {
	good := api.Instr{Op: api.OLoad, A: 7, B: 7, C: -1000000000}
	for _, bad := range []api.Instr{{Op: -1}, {Op: 27}, {Op: most}, {Op: least}, {Op: api.OHalt, C: 1}, {Op: api.OSet, A: 1, B: 1, C: 1}, {Op: api.OJump, A: 4}} {
		for k := range 3 {
			code := []api.Instr{good, good, good}
			if !asm.Right(code) {
				t.Fatal(code)
			}
			code[k] = bad
			if asm.Right(code) {
				t.Errorf("Right of %v", code)
			}
		}
	}
}

// P5.1: code has at most 1000 instructions, and may have none.
func TestRightMany(t *testing.T) {
	for n, may := range map[int]bool{0: true, 1: true, 999: true, 1000: true, 1001: false, 5000: false} {
		if asm.Right(make([]api.Instr, n)) != may {
			t.Errorf("Right of %d instructions is not %v", n, may)
		}
	}
	if !asm.Right(nil) {
		t.Error("no code may not be")
	}
	code := make([]api.Instr, 1000)
	code[0] = api.Instr{Op: api.OCall, A: 1000}
	if !asm.Right(code) {
		t.Error("the end is no target")
	}
	code[0].A = 1001
	if asm.Right(code) {
		t.Error("what is behind the end is a target")
	}
}

// P5.1: the chapter's examples.
func TestParseExamples(t *testing.T) {
	check(t, text("a:", "plus r1 r1 -1", "some r1 a"), []api.Instr{{Op: api.OPlus, A: 1, B: 1, C: -1}, {Op: api.OSome, A: 1}}, 0, api.OK)
	check(t, text("jump b"), nil, 1, api.ErrLabel)
}

// P5.1: a text without lines is code without instructions, and so is one of labels alone.
func TestParseNothing(t *testing.T) {
	check(t, "", nil, 0, api.OK)
	check(t, text("a:", "b:", "halt:", "r1:"), nil, 0, api.OK)
}

// P5.1: each operation is read, by its name, with its operands in order.
func TestParseOperations(t *testing.T) {
	for op := range 27 {
		parts := strings.Fields(shapes()[op])
		var v [3]int
		for n, kind := range parts[1:] {
			switch kind {
			case "r":
				v[n] = 3 + n
				parts[n+1] = "r" + strconv.Itoa(v[n])
			case "n":
				v[n] = -12
				parts[n+1] = "-12"
			case "t":
				v[n] = 2
				parts[n+1] = "here"
			}
		}
		line := strings.Join(parts, " ")
		check(t, text(line, "halt", "here:", line), []api.Instr{with(op, v), {}, with(op, v)}, 0, api.OK)
		wrong(t, 2, api.ErrLine, text("here:", line+" r1"), text("here:", line+" "), "here:\n"+line)
		wrong(t, 1, api.ErrOp, text(" "+line), text(strings.ToUpper(line)), text("x"+line), text("\t"+line))
		if len(parts) > 1 {
			wrong(t, 1, api.ErrLine, text(parts[0]), text(strings.Join(parts[:len(parts)-1], " ")), text(strings.Replace(line, " ", "  ", 1)))
		}
	}
}

// P5.1: the first word is an operation's name, whole.
func TestParseNoOperation(t *testing.T) {
	wrong(t, 1, api.ErrOp, "\n", " \n", "  \n", text("hal"), text("halts"), text("Halt"), text("0"), text("halt\r"), text("halt\tr1"), text("halt\x00"), text("\xffhalt"), text("stop r1 r9"), text(": "), text("a: "), text("a"), text("OHalt"))
	wrong(t, 3, api.ErrOp, text("halt", "a:", "", "halt"))
}

// P5.1: a register is r and one digit 0 to 7.
func TestParseRegisters(t *testing.T) {
	for k := range 8 {
		check(t, text("self r"+strconv.Itoa(k)), []api.Instr{{Op: api.OSelf, A: k}}, 0, api.OK)
	}
	for _, part := range []string{"r8", "r9", "r", "r/", "r:x", "r00", "r07", "r10", "R1", "1", "x1", "r-1", "r+1", "", "r1,", "\tr1", "ra", "r\xb1", "rr1"} {
		wrong(t, 1, api.ErrRange, text("self "+part), text("set "+part+" 1"), text("move r1 "+part), text("add r1 r2 "+part), text("wait "+part+" r1"))
	}
}

// P5.1: a number is decimal digits, without a 0 ahead, and from -10^9 to 10^9.
func TestParseNumbers(t *testing.T) {
	for _, v := range []int{0, 1, -1, 9, 10, -10, 99, 123456789, 1000000000, -1000000000, 999999999, -999999999} {
		check(t, text("mark "+strconv.Itoa(v)), []api.Instr{{Op: api.OMark, A: v}}, 0, api.OK)
		check(t, text("set r7 "+strconv.Itoa(v)), []api.Instr{{Op: api.OSet, A: 7, B: v}}, 0, api.OK)
		check(t, text("store r7 r6 "+strconv.Itoa(v)), []api.Instr{{Op: api.OStore, A: 7, B: 6, C: v}}, 0, api.OK)
	}
	long := strings.Repeat("9", 30000)
	for _, part := range []string{
		"", "-", "+", "+1", "-0", "00", "01", "-01", "--1", "1-", "1 ", "0x1", "1e3", "1_0", "1.0", "a", "r1", "\xd9\xa1", "1000000001", "-1000000001", "10000000000",
		"9223372036854775807", "-9223372036854775808", "9223372036854775808", "18446744073709551617", "0000000001", long, "-" + long,
	} {
		if strings.HasSuffix(part, " ") {
			wrong(t, 1, api.ErrLine, text("mark "+part))
			continue
		}
		wrong(t, 1, api.ErrRange, text("mark "+part), text("set r1 "+part), text("mask r1 r2 "+part))
	}
}

// P5.1: a target is a name, of a label that may stand ahead or behind.
func TestParseTargets(t *testing.T) {
	for _, name := range []string{"a", "z", "a0", "z9", "halt", "r1", "jump", "abcdefghijkl", "l1000", "a00000000000"} {
		check(t, text("jump "+name, name+":", "some r1 "+name, "call "+name), []api.Instr{{Op: api.OJump, A: 1}, {Op: api.OSome, A: 1, B: 1}, {Op: api.OCall, A: 1}}, 0, api.OK)
	}
	for _, name := range []string{"", "0", "0a", "9", "A", "aA", "a_", "a-", "abcdefghijklm", "a.b", "-a", "a\x00", "\xe9", "a\xff", "{", "`", "a{", "a/", "/a"} {
		wrong(t, 1, api.ErrRange, text("jump "+name, name+":"), text("zero r1 "+name, name+":"))
		wrong(t, 1, api.ErrLine, text(name+":", "jump "+name), text(name+":"))
	}
	wrong(t, 1, api.ErrLabel, text("jump b"), text("jump a", "aa:"), text("jump aa", "a:"), text("call abcdefghijkl", "abcdefghijk:"))
}

// P5.1: the label that is looked for is an ended line of the text, any one, right ahead of it or not.
func TestParseEndedLabels(t *testing.T) {
	wrong(t, 1, api.ErrLabel, "jump a\na:", "jump a\na", text("jump a", "a: ", "a:a:"), text("jump a", " a:"), text("jump a", "set r1 a:"))
	wrong(t, 2, api.ErrOp, text("jump a", "stop", "a:"))
	wrong(t, 2, api.ErrLine, text("jump a", "halt ", "a:"), "jump a\nhalt \na:\na:")
	wrong(t, 3, api.ErrLabel, text("jump a", "a:", "a:"))
	wrong(t, 2, api.ErrLine, "a:\na:", "a:\n:", "halt\nhalt", "halt\nstop")
}

// P5.1: a label's line has a name ahead of its last byte, and is the only one of that name.
func TestParseLabels(t *testing.T) {
	wrong(t, 1, api.ErrLine, text(":"), text("::"), text("a::"), text(" a:"), text("a :"), text("1:"), text("halt r1:"), text("set r1 1:"), text("jump a:", "a:"), text("abcdefghijklm:"), text("A:"), "a:")
	wrong(t, 2, api.ErrLabel, text("a:", "a:"))
	wrong(t, 4, api.ErrLabel, text("a:", "b:", "halt", "a:", "b:"))
	wrong(t, 3, api.ErrLabel, text("a:", "jump a", "a:", "stop"))
	check(t, text("a:", "aa:", "a0:", "halt"), []api.Instr{{}}, 0, api.OK)
}

// P5.1: of a line's errors the one named first is told, and of its operands' that of the first operand.
func TestParseOrder(t *testing.T) {
	wrong(t, 1, api.ErrLine, "stop r9", "stop r9:", text("halt r9"), text("zero r9 b x"), text("jump"))
	wrong(t, 1, api.ErrOp, text("stop r9 b x"))
	wrong(t, 1, api.ErrRange, text("zero r9 b"), text("zero r9 B"), text("zero r1 B"), text("some  b"))
	wrong(t, 1, api.ErrLabel, text("zero r1 b"))
	full := repeated("halt", 1000)
	wrong(t, 1001, api.ErrSize, full+text("halt"), full+text("jump a", "a:"), full+text("self r7"), full+text("halt", "halt"))
	wrong(t, 1001, api.ErrLine, full+"halt", full+text("halt r1"), full+text("a::"))
	wrong(t, 1001, api.ErrOp, full+text("stop"))
	wrong(t, 1001, api.ErrRange, full+text("self r8"))
	wrong(t, 1001, api.ErrLabel, full+text("jump b"))
	wrong(t, 1, api.ErrOp, text("stop")+full+text("halt"))
}

// P5.1: 1000 instructions may be, with labels behind and between them.
func TestParseMany(t *testing.T) {
	code := make([]api.Instr, 1000)
	check(t, repeated("halt", 1000), code, 0, api.OK)
	check(t, text("a:")+repeated("halt", 999)+text("b:", "halt", "c:", "d:"), code, 0, api.OK)
	code[0] = api.Instr{Op: api.OJump, A: 1000}
	check(t, text("jump z")+repeated("halt", 999)+text("y:", "z:"), code, 0, api.OK)
	wrong(t, 1003, api.ErrSize, text("jump z")+repeated("halt", 999)+text("y:", "z:", "halt"))
	wrong(t, 1003, api.ErrLabel, text("z:")+repeated("halt", 1000)+text("y:", "y:"))
}

// P5.1: a text has at most 40000 bytes, whatever they are.
func TestParseSize(t *testing.T) {
	labels := ""
	for k := range 5000 {
		labels += "x" + strconv.Itoa(10000+k) + ":\n"
	}
	check(t, labels, nil, 0, api.OK)
	if len(labels) != 40000 {
		t.Fatal(len(labels))
	}
	wrong(t, 0, api.ErrSize, labels+"\n", labels+"a", labels+"a:\n", strings.Repeat("\n", 40001), strings.Repeat("\xff", 50000), repeated("halt", 8001))
	wrong(t, 1, api.ErrOp, strings.Repeat("\n", 40000), strings.Repeat(" ", 39999)+"\n")
	wrong(t, 1, api.ErrLine, strings.Repeat("a", 40000), strings.Repeat(" ", 40000), "halt"+strings.Repeat(" ", 39995)+"\n", strings.Repeat(":", 39999)+"\n")
	wrong(t, 1, api.ErrRange, "jump "+strings.Repeat("a", 39994)+"\n")
	wrong(t, 1001, api.ErrSize, repeated("halt", 8000))
}

// P5.1: every text of up to three lines of those that matter is read as the promise is, word for word.
func TestParseShortTexts(t *testing.T) {
	lines := []string{
		"halt\n", "halt \n", "\n", "a:\n", "b:\n", "a:", "halt", "jump a\n", "jump b\n", "jump A\n", "zero r1 a\n", "zero r8 a\n", "zero r1 1\n", "set r1 7\n",
		"set r1 07\n", "set r1\n", "set r1  7\n", "stop a\n", ":\n", "a b:\n", "self r7\n", "mark -3\n", " halt\n", "a: \n", "move r1 r2 r3\n", "less r1 r2 r3\n",
	}
	hold := func(s string) {
		code, line, why := told(s)
		check(t, s, code, line, why)
	}
	for _, a := range lines {
		hold(a)
		for _, b := range lines {
			hold(a + b)
			for _, c := range lines {
				hold(a + b + c)
			}
		}
	}
}

// P5.1: texts of bytes put in, taken out and changed are read as the promise is.
func TestParseChangedTexts(t *testing.T) {
	d := dice(7)
	bytes := "ar017-: \nhltjmpz\xff+"
	for range 20000 {
		s, e := asm.Print(d.code(1 + d.below(6)))
		if e != api.OK {
			t.Fatal(e)
		}
		for range 1 + d.below(3) {
			at, b := d.below(len(s)), string(bytes[d.below(len(bytes))])
			switch d.below(3) {
			case 0:
				s = s[:at] + b + s[at:]
			case 1:
				s = s[:at] + b + s[at+1:]
			default:
				s = s[:at] + s[at+1:] + b
			}
		}
		code, line, why := told(s)
		check(t, s, code, line, why)
	}
}

// printed is the code's text as P5.2 is read.
func printed(code []api.Instr) string {
	aims := func(k int) bool {
		return slices.ContainsFunc(code, func(i api.Instr) bool {
			v := [3]int{i.A, i.B, i.C}
			for n, kind := range kindsOf(i.Op) {
				if kind == "t" && v[n] == k {
					return true
				}
			}
			return false
		})
	}
	var lines []string
	for k := range len(code) + 1 {
		if aims(k) {
			lines = append(lines, "l"+strconv.Itoa(k)+":")
		}
		if k == len(code) {
			break
		}
		parts := strings.Fields(shapes()[code[k].Op])
		v := [3]int{code[k].A, code[k].B, code[k].C}
		for n, kind := range parts[1:] {
			ahead := map[string]string{"r": "r", "n": "", "t": "l"}[kind]
			parts[n+1] = ahead + strconv.Itoa(v[n])
		}
		lines = append(lines, strings.Join(parts, " "))
	}
	return text(lines...)
}

// P5.2: Print tells each instruction's line, and each target's label once, ahead of it.
func TestPrint(t *testing.T) {
	for _, x := range []struct {
		code []api.Instr
		text string
	}{
		{nil, ""},
		{[]api.Instr{}, ""},
		{[]api.Instr{{}}, "halt\n"},
		{[]api.Instr{{Op: api.OJump}}, "l0:\njump l0\n"},
		{[]api.Instr{{Op: api.OJump, A: 1}}, "jump l1\nl1:\n"},
		{[]api.Instr{{Op: api.OPlus, A: 1, B: 1, C: -1}, {Op: api.OSome, A: 1}}, "l0:\nplus r1 r1 -1\nsome r1 l0\n"},
		{[]api.Instr{{Op: api.OZero, A: 1, B: 2}, {Op: api.OCall, A: 2}, {Op: api.OSome, B: 3}}, "zero r1 l2\ncall l2\nl2:\nsome r0 l3\nl3:\n"},
		{[]api.Instr{{Op: api.OSet, A: 1, B: 1}, {Op: api.OMark, A: 2}, {Op: api.OZero, A: 2}}, "l0:\nset r1 1\nmark 2\nzero r2 l0\n"},
		{[]api.Instr{{Op: api.OMark, A: 1000000000}, {Op: api.OMark, A: -1000000000}}, "mark 1000000000\nmark -1000000000\n"},
	} {
		if s, e := asm.Print(x.code); s != x.text || e != api.OK {
			t.Errorf("Print of %v is %q, %d", x.code, s, e)
		}
	}
}

// P5.2: code of all kinds is printed as the promise is read.
func TestPrintAny(t *testing.T) {
	d := dice(3)
	for range 3000 {
		code := d.code(d.below(9))
		if s, e := asm.Print(code); s != printed(code) || e != api.OK {
			t.Fatalf("Print of %v is %q, %d", code, s, e)
		}
	}
}

// P5.2: Print tells ErrArg, and no text, of code that may not be.
func TestPrintWrong(t *testing.T) {
	for _, code := range [][]api.Instr{
		{{Op: -1}}, {{Op: 27}}, {{Op: most}}, {{Op: least}}, {{A: 1}}, {{B: 1}}, {{C: -1}}, {{Op: api.OJump, A: 2}}, {{Op: api.OJump, A: -1}}, {{Op: api.OJump, A: most}},
		{{Op: api.OZero, A: 8}}, {{Op: api.OZero, B: least}}, {{Op: api.OSelf, A: -1}}, {{Op: api.OMark, A: 1000000001}}, {{}, {}, {Op: api.OSet, C: 1}}, make([]api.Instr, 1001),
	} {
		if s, e := asm.Print(code); s != "" || e != api.ErrArg {
			t.Errorf("Print of %.5v is %q, %d", code, s, e)
		}
	}
}

// P5.3: Where is how many instructions stand ahead of the label.
func TestWhere(t *testing.T) {
	s := text("a:", "halt", "b:", "c:", "jump e", "set r1 1", "halt:", "halt", "e:")
	for label, n := range map[string]int{"a": 0, "b": 1, "c": 1, "halt": 3, "e": 4} {
		if k, e := asm.Where(s, label); k != n || e != api.OK {
			t.Errorf("%s is at %d, %d", label, k, e)
		}
	}
	for _, label := range []string{"", "d", "A", "a:", ":", "aa", "jump", "a\n", "halt\nb", "a:\nhalt\nb", " a", "a ", "\xff", "set r1 1", "l0", strings.Repeat("a", 50000)} {
		if k, e := asm.Where(s, label); k != 0 || e != api.ErrNone {
			t.Errorf("%.20q is at %d, %d", label, k, e)
		}
	}
	full := repeated("halt", 1000) + text("end:")
	if k, e := asm.Where(full, "end"); k != 1000 || e != api.OK {
		t.Error(k, e)
	}
	if k, e := asm.Where("", "a"); k != 0 || e != api.ErrNone {
		t.Error(k, e)
	}
}

// P5.3: Where tells the text's error first, and no place beside it.
func TestWhereWrong(t *testing.T) {
	for s, why := range map[string]api.Errno{
		"halt\na:": api.ErrLine, "halt\na:\nstop\n": api.ErrOp, "halt\na:\na:\n": api.ErrLabel, "halt\na:\nself r8\n": api.ErrRange, "halt\na:\njump b\n": api.ErrLabel,
		"halt\na:\n" + repeated("halt", 1000): api.ErrSize, "halt\na:\n" + repeated("halt", 8000): api.ErrSize, "halt ": api.ErrLine,
	} {
		for _, label := range []string{"a", "b", ""} {
			if k, e := asm.Where(s, label); k != 0 || e != why {
				t.Errorf("%s of %.30q is at %d, %d", label, s, k, e)
			}
		}
	}
}

// P5.4: what is printed is read as it was, the longest code too.
func TestPrintedIsRead(t *testing.T) {
	d := dice(11)
	for _, many := range []int{0, 1, 2, 3, 10, 999, 1000} {
		for range 20 {
			code := d.code(many)
			s, _ := asm.Print(code)
			check(t, s, code, 0, api.OK)
		}
	}
	code := make([]api.Instr, 1000)
	for k := range code {
		code[k] = api.Instr{Op: api.OSome, A: 7, B: k + 1}
	}
	s, _ := asm.Print(code)
	check(t, s, code, 0, api.OK)
}

// moved is code whose targets are so many instructions further.
func moved(code []api.Instr, by int) []api.Instr {
	all := slices.Clone(code)
	for k, i := range all {
		switch i.Op {
		case api.OJump, api.OCall:
			all[k].A += by
		case api.OZero, api.OSome:
			all[k].B += by
		}
	}
	return all
}

// P5.4: texts without a label in common are read one behind the other as they are each.
func TestOneBehindTheOther(t *testing.T) {
	d := dice(5)
	for range 500 {
		a, b := d.code(d.below(8)), d.code(d.below(8))
		s, _ := asm.Print(a)
		later, _ := asm.Print(b)
		later = strings.NewReplacer(" l", " m", "\nl", "\nm").Replace("\n" + later)[1:]
		later = strings.NewReplacer("mess ", "less ", "moad ", "load ").Replace(later)
		check(t, s+later, slices.Concat(a, moved(b, len(a))), 0, api.OK)
	}
	half := text("a:") + repeated("jump a", 500)
	whole := half + strings.ReplaceAll(half, "a", "b")
	check(t, whole, slices.Concat(slices.Repeat([]api.Instr{{Op: api.OJump}}, 500), slices.Repeat([]api.Instr{{Op: api.OJump, A: 500}}, 500)), 0, api.OK)
	wrong(t, 1003, api.ErrSize, whole+text("halt"))
}

// P1, R1, R3, R4: calls end at all arguments, leave the code as it is, and answer the same again.
func TestKept(t *testing.T) {
	d := dice(9)
	for range 200 {
		code := d.code(d.below(12))
		kept := slices.Clone(code)
		s, _ := asm.Print(code)
		again, _ := asm.Print(code)
		if !asm.Right(code) || !slices.Equal(code, kept) || s != again {
			t.Fatal(code, kept)
		}
		a, _, _ := asm.Parse(s)
		b, _, _ := asm.Parse(s)
		if len(a) > 0 {
			a[0] = api.Instr{Op: most}
		}
		if !slices.Equal(b, kept) {
			t.Fatal("two answers share a list")
		}
	}
	for _, op := range []int{least, -1, 27, most} {
		for _, v := range []int{least, most} {
			code := []api.Instr{{Op: op, A: v, B: v, C: v}}
			if asm.Right(code) {
				t.Error(code)
			}
		}
	}
}
