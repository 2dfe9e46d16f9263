package programs

const (
	reach = "new: value in min\n" +
		"go: value 1000000000 < step 0 = value old < max *\n" +
		"msg: value weight +\n" +
		"halt: 1\n" +
		"give: 1\n" +
		"by: min\n" +
		"all: sum"

	least = "new: step 0 = id value in min ?\n" +
		"go: step 0 = value old < max\n" +
		"msg: value\n" +
		"halt: 1\n" +
		"give: 1\n" +
		"by: min\n" +
		"all: sum"

	most = "new: value in max\n" +
		"go: step 0 = old value < max\n" +
		"msg: value\n" +
		"halt: 1\n" +
		"give: value\n" +
		"by: max\n" +
		"all: max"

	rank = "new: step 0 = 1000000 in 85 * 100 / 150000 + ?\n" +
		"go: step 20 <\n" +
		"msg: value deg /\n" +
		"halt: step 19 < 0 =\n" +
		"give: value\n" +
		"by: sum\n" +
		"all: sum"
)

// Named tells a program's text by its name in the catalogue, and whether there is one (P5).
func Named(name string) (string, bool) {
	switch name {
	case "reach":
		return reach, true
	case "least":
		return least, true
	case "most":
		return most, true
	case "rank":
		return rank, true
	}
	return "", false
}
