package stride_test

import (
	"encoding/binary"
	"hash/crc32"
	"maps"
	"math"
	"math/rand"
	"regexp"
	"slices"
	"strconv"
	"strings"
	"testing"

	"stride/api"
	"stride/stride"
)

func sumOf(text string) uint32 { return crc32.ChecksumIEEE([]byte(text)) }

func jobOf(graph, program string, limit int) uint32 {
	return sumOf(graph + "\x00" + program + "\x00" + strconv.Itoa(limit))
}

// cover, vertexValue and vertexMail: what stands in c., and for each vertex in v. and m., in this order.
type cover struct {
	Step      uint32
	All       int64
	Job, V, M uint32
}

type vertexValue struct {
	Value int64
	Rests uint8
}

type vertexMail struct {
	Got uint32
	In  int64
}

// sealedOf: the sealed bytes of a struct, or of a list of them.
func sealedOf(what any) string {
	b, err := binary.Append(nil, binary.LittleEndian, what)
	if err != nil {
		panic(err)
	}
	return rightlySealed(string(b))
}

// opens reads sealed bytes into a struct, or a list of them, if they are just as long.
func opens(sealed string, into any) bool {
	if len(sealed) < 8 || sealed != rightlySealed(sealed[8:]) {
		return false
	}
	n, err := binary.Decode([]byte(sealed[8:]), binary.LittleEndian, into)
	return err == nil && n == len(sealed)-8
}

// files: the three files of a snapshot.
type files struct{ v, m, c string }

func (s state) files(job uint32) files {
	values := make([]vertexValue, len(s.values))
	mail := make([]vertexMail, len(s.values))
	for i := range s.values {
		values[i].Value = s.values[i]
		if s.rests[i] {
			values[i].Rests = 1
		}
		mail[i] = vertexMail{uint32(s.got[i]), s.in[i]}
	}
	v, m := sealedOf(values), sealedOf(mail)
	return files{v, m, sealedOf(cover{uint32(s.step), s.all, job, sumOf(v), sumOf(m)})}
}

var coverNames = regexp.MustCompile(`^c\.(0|[1-9][0-9]*)$`)

// whole: the states of all whole snapshots of a job, by their steps.
func (r *referenceDisk) whole(job uint32, vertices int) map[int]state {
	bytes := map[string]string{}
	for name, f := range r.names() {
		bytes[name] = f.safe + f.loose
	}
	found := map[int]state{}
	for name := range bytes {
		parts := coverNames.FindStringSubmatch(name)
		if parts == nil {
			continue
		}
		v, m := bytes["v."+parts[1]], bytes["m."+parts[1]]
		values, mail := make([]vertexValue, vertices), make([]vertexMail, vertices)
		var c cover
		if !opens(bytes[name], &c) || !opens(v, values) || !opens(m, mail) || c.Job != job || c.V != sumOf(v) || c.M != sumOf(m) || strconv.Itoa(int(c.Step)) != parts[1] {
			continue
		}
		s := state{step: int(c.Step), all: c.All}
		right := true
		for i := range values {
			right = right && values[i].Rests < 2
			s.values = append(s.values, values[i].Value)
			s.rests = append(s.rests, values[i].Rests == 1)
			s.got = append(s.got, int(mail[i].Got))
			s.in = append(s.in, mail[i].In)
		}
		if right {
			found[s.step] = s
		}
	}
	return found
}

// namesOf: of a snapshot's files, in the order in which they are removed.
func namesOf(step int) []string {
	s := strconv.Itoa(step)
	return []string{"c." + s, "m." + s, "v." + s}
}

// saving: the operations by which a snapshot is saved.
func saving(step int, f files) []string {
	s := strconv.Itoa(step)
	return []string{
		"create v." + s, "append v." + s + " " + f.v, "sync v." + s,
		"create m." + s, "append m." + s + " " + f.m, "sync m." + s,
		"create t", "append t " + f.c, "sync t",
		"rename t c." + s, "syncdir",
	}
}

// script: all operations of a Resume in their order; those with which a snapshot is saved are told besides.
type script struct {
	operations []string
	saved      map[int]bool
}

func (s *script) remove(names ...string) {
	for _, name := range names {
		s.operations = append(s.operations, "remove "+name)
	}
}

func (s *script) cleanUp(names []string, kept []int) {
	before := len(s.operations)
	for _, name := range slices.Sorted(slices.Values(names)) {
		if !slices.ContainsFunc(kept, func(step int) bool { return slices.Contains(namesOf(step), name) }) {
			s.remove(name)
		}
	}
	if len(s.operations) > before {
		s.operations = append(s.operations, "syncdir")
	}
}

// save tells which snapshots are kept then.
func (s *script) save(step int, f files, kept []int, most int) []int {
	s.operations = append(s.operations, saving(step, f)...)
	s.saved[len(s.operations)-1] = true
	kept = append(slices.Clone(kept), step)
	if len(kept) > most {
		s.remove(namesOf(kept[0])...)
		s.operations = append(s.operations, "syncdir")
		kept = kept[1:]
	}
	return kept
}

// resume says P11 to P14 over again, for texts and numbers that are right: the run ahead of all operations, which it does not hang on.
func (r *referenceDisk) resume(graph, program string, c api.Conf) (api.Result, api.Report, api.Errno) {
	if r.down {
		return api.Result{}, api.Report{}, api.ErrDown
	}
	g, _, _ := stride.Parse(graph)
	job := jobOf(graph, program, c.Cap)
	whole := r.whole(job, len(g.Values))
	kept := slices.Sorted(maps.Keys(whole))
	from := referenceBegin(g, program)
	if len(kept) > 0 {
		from = whole[kept[len(kept)-1]]
	}
	kept = kept[max(0, len(kept)-c.Keep):]
	result, begun := referenceRunFrom(from, g, program, c.Cap)
	s := script{saved: map[int]bool{}}
	s.cleanUp(slices.Collect(maps.Keys(r.names())), kept)
	for i, ahead := range begun {
		if i > 0 && ahead.step%c.Every == 0 {
			kept = s.save(ahead.step, ahead.files(job), kept, c.Keep)
		}
	}
	report := api.Report{From: from.step}
	for i, o := range s.operations {
		words := append(strings.SplitN(o, " ", 3), "", "")
		if e := r.operate(words[0], words[1], words[2]); e != api.OK {
			return api.Result{}, report, e
		}
		if s.saved[i] {
			report.Saved++
		}
	}
	return result, report, api.OK
}

func sameResult(a, b api.Result) bool {
	return a.Outcome == b.Outcome && a.Step == b.Step && a.Vertex == b.Vertex && slices.Equal(a.Values, b.Values)
}

// job: what Resume is asked to do, but for how often and how much it saves.
type job struct {
	graph, program string
	limit          int
}

func (j job) sum() uint32 { return jobOf(j.graph, j.program, j.limit) }

func (c chance) job() job {
	ring := "a 3\nb 1\nc 2\na>b 1\nb>c 2\nc>a 3"
	count := still("new: value 1 +", "halt: value 30 < 0 =", "give: value")
	rank, _ := stride.Catalogue("rank")
	most, _ := stride.Catalogue("most")
	switch c.Intn(6) {
	case 0:
		return job{"a 0", count, 20 + c.Intn(20)}
	case 1:
		return job{ring, rank, 18 + c.Intn(5)}
	case 2:
		return job{ring, most, c.Intn(9)}
	case 3:
		return job{ring, still("new: value in + all +", "go: 1", "msg: weight got +", "halt: step 2 %", "give: value"), c.Intn(15)}
	}
	return job{c.graph(4), c.program(), c.Intn(12)}
}

// resume does the same on both disks.
func (p *pair) resume(t *testing.T, j job, c api.Conf) (api.Report, api.Errno) {
	t.Helper()
	c.Cap = j.limit
	p.told = append(p.told, "resume "+strconv.Itoa(c.Every)+" "+strconv.Itoa(c.Keep)+" "+strconv.Itoa(c.Cap)+" "+j.graph+" "+j.program)
	want, wantReport, wantError := p.reference.resume(j.graph, j.program, c)
	r, report, e := stride.Resume(p.disk, j.graph, j.program, c)
	if !sameResult(r, want) || report != wantReport || e != wantError {
		t.Fatalf("P11: behind %q Resume = %v, %v, %d, want %v, %v, %d", p.told, r, report, e, want, wantReport, wantError)
	}
	return report, e
}

// lay writes a file on both disks.
func (p *pair) lay(name, bytes string) {
	p.told = append(p.told, "lay "+name)
	for _, o := range [][2]string{{"create", ""}, {"append", bytes}, {"sync", ""}} {
		operate(p.disk, o[0]+" "+name+" "+o[1])
		p.reference.operate(o[0], name, o[1])
	}
}

// wildState: what never was, mostly.
func (c chance) wildState(vertices, limit int) state {
	numbers := []int64{0, 1, -1, 5, least, greatest, far}
	s := state{step: c.Intn(limit + 3), all: numbers[c.Intn(len(numbers))]}
	if c.Intn(9) == 0 {
		s.step = []int{math.MaxUint32, math.MaxInt32, math.MaxInt32 + 1, 1000}[c.Intn(4)]
	}
	for range vertices {
		s.values = append(s.values, numbers[c.Intn(len(numbers))])
		s.rests = append(s.rests, c.Intn(2) == 0)
		s.got = append(s.got, []int{0, 0, 0, 1, 2, math.MaxUint32, math.MaxInt32 + 1}[c.Intn(7)])
		s.in = append(s.in, numbers[c.Intn(len(numbers))])
	}
	return s
}

// layWild lays a snapshot that is whole, or has one flaw.
func (p *pair) layWild(c chance, j job) {
	g, _, _ := stride.Parse(j.graph)
	s := c.wildState(len(g.Values), j.limit)
	f := s.files(j.sum())
	step := strconv.Itoa(s.step)
	hurt := []*string{&f.v, &f.m, &f.c}[c.Intn(3)]
	switch c.Intn(12) {
	case 0:
		f = s.files(j.sum() + 1)
	case 1:
		step = c.of("0"+step, "00", step+"0", strconv.Itoa(s.step+1), strconv.Itoa(s.step+1<<32), "", "x", "+1")
	case 2:
		*hurt = ""
	case 3:
		*hurt += c.of("\x00", "x")
	case 4:
		*hurt = (*hurt)[:len(*hurt)-1]
	case 5:
		b := []byte(*hurt)
		b[c.Intn(len(b))] ^= 1 << c.Intn(8)
		*hurt = string(b)
	case 6:
		f.v, f.m = f.m, f.v
	case 7:
		f = c.wildState(len(g.Values)+1, j.limit).files(j.sum())
	}
	missing := c.Intn(20)
	for i, file := range [][2]string{{"v." + step, f.v}, {"m." + step, f.m}, {"c." + step, f.c}} {
		if i != missing {
			p.lay(file[0], file[1])
		}
	}
}

func (p *pair) set(c chance) {
	switch c.Intn(3) {
	case 0:
		n := c.Intn(300)
		if c.Intn(4) == 0 {
			n = 1 << 30
		}
		p.told = append(p.told, "quota "+strconv.Itoa(n))
		p.disk.Quota(n)
		p.reference.quota = n
	case 1:
		n := c.Intn(60)
		p.told = append(p.told, "arm "+strconv.Itoa(n))
		p.disk.Arm(n)
		p.reference.fuse = strings.Repeat("x", n+1)
	case 2:
		dir, keep := c.Intn(12)-1, make([]int, c.Intn(9))
		for i := range keep {
			keep[i] = c.Intn(60)
		}
		p.told = append(p.told, "crash")
		p.disk.Crash(dir, keep)
		p.reference.crash(dir, keep)
	}
}

// TestResumeAgainstReference: P11 to P14 with jobs by turns on several disks, which crash and are full, and on which wild files are laid.
func TestResumeAgainstReference(t *testing.T) {
	c := chance{rand.New(rand.NewSource(17))}
	ends := map[api.Errno]int{}
	wentOn, saved, both := 0, 0, 0
	for range 1000 {
		jobs := []job{c.job(), c.job(), c.job()}
		pairs := make([]*pair, 2)
		for i := range pairs {
			pairs[i] = &pair{disk: stride.NewDisk(1 << 30), reference: newReferenceDisk(1 << 30)}
		}
		for range 60 {
			p, j := pairs[c.Intn(len(pairs))], jobs[min(c.Intn(9), len(jobs)-1)]
			switch c.Intn(6) {
			case 0:
				p.layWild(c, j)
			case 1, 2:
				p.set(c)
			default:
				report, e := p.resume(t, j, api.Conf{Every: 1 + c.Intn(6), Keep: 1 + c.Intn(5)})
				ends[e]++
				wentOn += min(report.From, 1)
				saved += min(report.Saved, 1)
				both += min(report.From, report.Saved, 1)
			}
			for _, p := range pairs {
				p.compare(t)
			}
		}
	}
	if min(ends[api.OK], wentOn, saved) < 5000 || min(ends[api.ErrDown], ends[api.ErrFull]) < 2000 || both < 500 {
		t.Errorf("too few of a kind were tried: %v, %d went on, %d saved, %d both", ends, wentOn, saved, both)
	}
}
