package stride_test

import (
	"math/rand"
	"strings"
	"testing"

	"stride/api"
	"stride/stride"
)

// program: one that is right, with these lines in place of its own (found by their names).
func program(changed ...string) string {
	l := []string{"new: 1", "go: 1", "msg: 1", "halt: 1", "give: 1", "by: min", "all: max"}
	for _, line := range changed {
		name, _, _ := strings.Cut(line, ":")
		for i := range l {
			if strings.HasPrefix(l[i], name+":") {
				l[i] = line
			}
		}
	}
	return strings.Join(l, "\n")
}

// programAt: one that is right, with this line in place of the i-th.
func programAt(i int, line string) string {
	l := strings.Split(program(), "\n")
	l[i] = line
	return strings.Join(l, "\n")
}

func checkCompile(t *testing.T, text string, want api.Errno, wantAt int) {
	t.Helper()
	if e, at := stride.Compile(text); e != want || at != wantAt {
		t.Errorf("Compile(%.80q) = %d, %d, want %d, %d", text, e, at, want, wantAt)
	}
}

func TestCompileTakesPrograms(t *testing.T) {
	for _, name := range []string{"reach", "least", "most", "rank"} {
		text, _ := stride.Catalogue(name)
		checkCompile(t, text, api.OK, 0)
	}
	for _, by := range []string{"min", "max", "sum"} {
		checkCompile(t, program("by: "+by), api.OK, 0)
		checkCompile(t, program("all: "+by), api.OK, 0)
	}
	for _, name := range []string{"new", "go", "msg", "halt", "give"} {
		checkCompile(t, program(name+": value old in got step id deg all + - * / % < ="), api.OK, 0)
		checkCompile(t, program(name+": 0 -1 min 1000000000 max -1000000000 swap over ? dup drop"), api.OK, 0)
		checkCompile(t, program(name+": 1 3 [ 2 [ 1 + ] ]"), api.OK, 0)
	}
	checkCompile(t, program("msg: weight dup *"), api.OK, 0)
}

func TestCompileTellsWrongLines(t *testing.T) {
	names := []string{"new", "go", "msg", "halt", "give", "by", "all"}
	for i, name := range names {
		word := "1"
		if i > 4 {
			word = "sum"
		}
		for _, line := range []string{
			"", " ", word, ":", ": " + word, name, name + ":", name + ": ", name + ":" + word, name + ":  " + word, name + ": " + word + " ", name + ": " + word + "  " + word, " " + name + ": " + word, name + " : " + word, name + ":: " + word, name + ": : " + word,
			strings.ToUpper(name) + ": " + word, "x" + name + ": " + word, name + "x: " + word, names[(i+1)%7] + ": " + word, name + ":\t" + word, name + ": " + word + "\t", name + ": " + word + "\r", name + ": x", name + ": " + strings.ToUpper("dup"), name + ":\u00a0" + word, name + ": " + word + "\xff", name + ": " + word + "\x00",
			name + ": Min", name + ": avg", name + ": " + word + " new:", name + ": " + word + " #",
		} {
			checkCompile(t, programAt(i, line), api.ErrForm, i)
		}
		if i < 5 {
			for _, code := range []string{"sum", "1 sum +", "by", "weigh", "01", "-0", "+1", "1000000001", "-1000000001", "18446744073709551617", "--", "++", "<=", "==", "??", "1 ]", "]", "1 1 [", "1 ] 1 [", "1 1 [ ] ]", "1 1 [ 1 [ ]", "1 1 []", "1 1 [ 1 drop]", "(", "1,", "Value"} {
				checkCompile(t, programAt(i, name+": "+code), api.ErrForm, i)
			}
		} else {
			for _, words := range []string{"1", "0", "min max", "min min", "+", "value", "all", "by", "[ ]", "dup"} {
				checkCompile(t, programAt(i, name+": "+words), api.ErrForm, i)
			}
		}
		if name != "msg" && i < 5 {
			checkCompile(t, programAt(i, name+": weight"), api.ErrForm, i)
		}
	}
	checkCompile(t, program("go: weight", "halt: x"), api.ErrForm, 1)
}

func TestCompileTellsHowManyLines(t *testing.T) {
	l := strings.Split(program(), "\n")
	for n := 1; n < len(l); n++ {
		checkCompile(t, strings.Join(l[:n], "\n"), api.ErrForm, n)
		checkCompile(t, strings.Join(l[:n], "\n")+"\n", api.ErrForm, n)
	}
	checkCompile(t, "", api.ErrForm, 0)
	checkCompile(t, "\n"+program(), api.ErrForm, 0)
	checkCompile(t, program()+"\n", api.ErrForm, 7)
	checkCompile(t, program()+"\n\n\n", api.ErrForm, 7)
	checkCompile(t, program()+"\nall: max", api.ErrForm, 7)
	checkCompile(t, program()+"\n"+program(), api.ErrForm, 7)
	checkCompile(t, strings.Repeat("\n", 2000), api.ErrForm, 0)
}

func TestCompileTellsTheStack(t *testing.T) {
	for i, name := range []string{"new", "go", "msg", "halt", "give"} {
		for _, code := range []string{
			"+", "1 +", "-", "1 *", "1 /", "1 %", "1 <", "1 =", "1 min", "1 max", "dup", "drop", "1 swap", "1 over", "1 1 ?", "[ ]", "drop 1 1",
			"1 1", "1 drop", "1 dup", "1 1 swap", "1 1 over", "1 1 1 1 ?", "1 1 [ drop ]", "1 1 [ dup ]", "3 [ 1 ]", "2 [ 1 ] drop 1", "0 [ 1 ] 1", "1 0 [ drop ] 1", "1 1 [ 1 1 [ drop ] ]", "1 [ drop 1 ]", "1 [ drop ] [ ]",
		} {
			checkCompile(t, programAt(i, name+": "+code), api.ErrStack, i)
		}
	}
	checkCompile(t, program("halt: 3 [ 1 drop ] 0"), api.OK, 0)
	checkCompile(t, program("halt: 7 2 [ drop 1 ]"), api.OK, 0) // a loop may take what stood below it
	checkCompile(t, program("halt: 1 1 [ dup drop ]"), api.OK, 0)
}

func TestCompileStackLimit(t *testing.T) {
	full := strings.Repeat(" 1", 16)
	sums := strings.Repeat(" +", 15)
	checkCompile(t, program("new:"+full+sums), api.OK, 0)
	checkCompile(t, program("new:"+full+" 1 +"+sums), api.ErrStack, 0)
	checkCompile(t, program("new:"+full+" value +"+sums), api.ErrStack, 0)
	checkCompile(t, program("new:"+full+" dup +"+sums), api.ErrStack, 0)
	checkCompile(t, program("new:"+full+" over +"+sums), api.ErrStack, 0)
	checkCompile(t, program("new:"+full+" swap"+sums), api.OK, 0)
	checkCompile(t, program("new:"+full+" [ 1 drop ] 1"+sums), api.OK, 0)
	checkCompile(t, program("new:"+full+" 1 [ ]"+sums), api.ErrStack, 0)
	checkCompile(t, program("new:"+full+" [ 1 1 drop drop ] 1"+sums), api.ErrStack, 0)
}

func TestCompileTellsTheErrorNamedFirst(t *testing.T) {
	checkCompile(t, program("new: +", "all: x"), api.ErrForm, 6)
	checkCompile(t, program("new: + ]"), api.ErrForm, 0)
	checkCompile(t, program("new: +")+"\n", api.ErrForm, 7)
	checkCompile(t, "new: +\ngo: 1", api.ErrForm, 2)
	checkCompile(t, program("msg: 1 1", "give: +"), api.ErrStack, 2)
	checkCompile(t, strings.Repeat("x", 2000), api.ErrForm, 0)
	checkCompile(t, strings.Repeat("x", 2001), api.ErrLong, 0)
}

func TestCompileLengthLimit(t *testing.T) {
	text := program("new: 1")
	for len(text)+4 <= 2000 {
		text = strings.Replace(text, "\ngo", " 0 +\ngo", 1)
	}
	text = strings.Replace(text, "new: 1", "new: 1"+strings.Repeat("0", 2000-len(text)), 1)
	if len(text) != 2000 {
		t.Fatalf("%d bytes", len(text))
	}
	checkCompile(t, text, api.OK, 0)
	checkCompile(t, strings.Replace(text, "new: 1", "new: 11", 1), api.ErrLong, 0)
	checkCompile(t, strings.Repeat("[ ", 1<<20), api.ErrLong, 0)
	checkCompile(t, program("new: 1"+strings.Repeat(" 1 [", 320)+strings.Repeat(" ]", 320)), api.OK, 0)
	checkCompile(t, program("new: 1"+strings.Repeat(" [", 970)), api.ErrForm, 0)
}

// effects: how many values a word takes and puts.
var effects = map[string][2]int{
	"0": {0, 1}, "-7": {0, 1}, "value": {0, 1}, "old": {0, 1}, "in": {0, 1}, "got": {0, 1}, "step": {0, 1}, "id": {0, 1}, "deg": {0, 1}, "all": {0, 1}, "weight": {0, 1},
	"+": {2, 1}, "-": {2, 1}, "*": {2, 1}, "/": {2, 1}, "%": {2, 1}, "<": {2, 1}, "=": {2, 1}, "min": {2, 1}, "max": {2, 1},
	"dup": {1, 2}, "drop": {1, 0}, "swap": {2, 2}, "over": {2, 3}, "?": {3, 1}, "[": {1, 0}, "]": {0, 0},
}

// referenceCode says the document's words on one line's code over again by other means.
func referenceCode(words []string) api.Errno {
	depth := 0
	for _, w := range words {
		if w == "[" {
			depth++
		}
		if w == "]" {
			depth--
		}
		if depth < 0 {
			return api.ErrForm
		}
	}
	if depth != 0 {
		return api.ErrForm
	}
	height := 0
	var behind []int
	for _, w := range words {
		if height < effects[w][0] {
			return api.ErrStack
		}
		height += effects[w][1] - effects[w][0]
		if height > 16 {
			return api.ErrStack
		}
		if w == "[" {
			behind = append(behind, height)
		}
		if w == "]" {
			if behind[len(behind)-1] != height {
				return api.ErrStack
			}
			behind = behind[:len(behind)-1]
		}
	}
	if height != 1 {
		return api.ErrStack
	}
	return api.OK
}

func compareCode(t *testing.T, words []string) api.Errno {
	t.Helper()
	want, wantAt := referenceCode(words), 2
	if want == api.OK {
		wantAt = 0
	}
	text := program("msg: " + strings.Join(words, " "))
	if e, at := stride.Compile(text); e != want || at != wantAt {
		t.Fatalf("Compile with msg: %q = %d, %d, want %d, %d", words, e, at, want, wantAt)
	}
	return want
}

func TestCompileAgainstReference(t *testing.T) {
	all := []string{"0", "-7", "value", "old", "in", "got", "step", "id", "deg", "all", "weight", "+", "-", "*", "/", "%", "<", "=", "min", "max", "dup", "drop", "swap", "over", "?", "[", "]"}
	var grow func(words []string, left int)
	grow = func(words []string, left int) {
		if len(words) > 0 {
			compareCode(t, words)
		}
		for _, next := range all {
			if left > 0 {
				grow(append(words[:len(words):len(words)], next), left-1)
			}
		}
	}
	grow(nil, 3)
	random := rand.New(rand.NewSource(1))
	few := []string{"1", "1", "1", "+", "dup", "drop", "swap", "over", "?", "[", "]"}
	seen := map[api.Errno]int{}
	for range 100000 {
		var words []string
		for range 1 + random.Intn(12) {
			w := few[random.Intn(len(few))]
			if w == "1" {
				w = all[random.Intn(11)]
			}
			words = append(words, w)
		}
		seen[compareCode(t, words)]++
	}
	if seen[api.OK] < 500 || seen[api.ErrStack] < 500 || seen[api.ErrForm] < 500 {
		t.Errorf("too few of a kind were tried: %v", seen)
	}
}
