package coffer_test

import (
	"fmt"
	"math/rand"
	"testing"

	"coffer/api"
	"coffer/coffer"
)

// picture: a state, as the document has it: the kinds on the stack, and for each place whether it is empty.
type picture struct {
	stack []int
	empty []bool
}

func (p picture) String() string { return fmt.Sprint(p.stack, p.empty) }

// effect: what an instruction takes (the lowest first) and puts, and whether all else that is said of it holds. Drop takes whatever is uppermost.
func effect(m api.Module, f api.Func, x api.Instr, p picture) (takes, puts []int, fine bool) {
	places := append(append([]int{}, f.Params...), f.Locals...)
	may := func(kind, what int) bool { return kind == 0 || m.Kinds[kind-1]/what%2 == 1 }
	switch opNames[x.Op] {
	case "ret":
		for i, k := range places {
			if !p.empty[i] && !may(k, 2) {
				return nil, nil, false
			}
		}
		return nil, nil, fmt.Sprint(p.stack) == fmt.Sprint(append([]int{}, f.Results...))
	case "push":
		return nil, []int{0}, true
	case "add", "sub", "less", "same":
		return []int{0, 0}, []int{0}, true
	case "jumpif":
		return []int{0}, nil, true
	case "copy":
		return nil, []int{places[x.Arg]}, !p.empty[x.Arg] && may(places[x.Arg], 1)
	case "move":
		return nil, []int{places[x.Arg]}, !p.empty[x.Arg]
	case "keep":
		return []int{places[x.Arg]}, nil, p.empty[x.Arg] || may(places[x.Arg], 2)
	case "drop":
		if len(p.stack) == 0 {
			return nil, nil, false
		}
		top := p.stack[len(p.stack)-1]
		return []int{top}, nil, may(top, 2)
	case "make":
		return []int{0}, []int{x.Arg}, true
	case "open":
		return []int{x.Arg}, []int{0}, true
	case "call":
		return m.Funcs[x.Arg].Params, m.Funcs[x.Arg].Results, true
	case "fetch":
		return nil, []int{x.Arg}, true
	case "store":
		return []int{x.Arg, 0}, nil, true
	case "has":
		return []int{0}, []int{0}, true
	}
	return nil, nil, true
}

// after: the state behind an instruction, and whether it goes well, but for the next instruction.
func after(m api.Module, f api.Func, x api.Instr, p picture) (picture, bool) {
	takes, puts, fine := effect(m, f, x, p)
	left := len(p.stack) - len(takes)
	if !fine || left < 0 || fmt.Sprint(p.stack[left:]) != fmt.Sprint(append([]int{}, takes...)) || left+len(puts) > 16 {
		return p, false
	}
	q := picture{append(append([]int{}, p.stack[:left]...), puts...), append([]bool{}, p.empty...)}
	switch opNames[x.Op] {
	case "move":
		q.empty[x.Arg] = true
	case "keep":
		q.empty[x.Arg] = false
	}
	return q, true
}

// modelSound goes all ways from an instruction on, each with the states met so far.
func modelSound(m api.Module, f api.Func, at int, p picture, met map[int]string) bool {
	if at >= len(f.Code) {
		return false
	}
	if s, there := met[at]; there {
		return s == p.String()
	}
	met[at] = p.String()
	x := f.Code[at]
	q, well := after(m, f, x, p)
	switch {
	case !well:
		return false
	case x.Op == api.Ret || x.Op == api.Fail:
		return true
	case x.Op == api.Jump:
		return modelSound(m, f, x.Arg, q, met)
	case x.Op == api.JumpIf && !modelSound(m, f, x.Arg, q, met):
		return false
	}
	return modelSound(m, f, at+1, q, met)
}

func modelCheck(m api.Module) (api.Errno, int) {
	for i, f := range m.Funcs {
		p := picture{[]int{}, make([]bool, len(f.Params)+len(f.Locals))}
		for k := range f.Locals {
			p.empty[len(f.Params)+k] = true
		}
		if !modelSound(m, f, 0, p, map[int]string{}) {
			return api.ErrFlow, i
		}
	}
	return api.OK, 0
}

// agree: Check answers what the model does; whether it is OK.
func agree(t *testing.T, m api.Module) bool {
	t.Helper()
	e, at := modelCheck(m)
	wantCheck(t, m, e, at)
	return e == api.OK
}

// Every function of up to three instructions, with the arguments that the module has, a few numbers apart.
func TestCheckOfEveryShortFunction(t *testing.T) {
	shapes := []api.Module{
		{Kinds: []int{0}, Funcs: []api.Func{fn("1", "1", "", ""), fn("1", "1", "", "move 0, ret")}},
		{Kinds: []int{3}, Funcs: []api.Func{fn("1", "", "0", ""), fn("0", "1", "", "move 0, make 1, ret")}},
		{Kinds: []int{2, 1}, Funcs: []api.Func{fn("2", "2", "1", "")}},
		{Kinds: []int{1}, Funcs: []api.Func{fn("", "0", "1", ""), fn("", "1", "", "fetch 1, ret")}},
		{Funcs: []api.Func{fn("", "", "0", ""), fn("", "00", "", "push 1, push 1, ret")}},
		{Funcs: []api.Func{fn("0", "0", "", "")}},
	}
	for k, m := range shapes {
		sound, all := 0, 0
		for n := 1; n <= 3; n++ {
			choices := []api.Instr{}
			for op := 0; op <= 18; op++ {
				low, high := argsOf(op, env{len(m.Kinds), len(m.Funcs), len(m.Funcs[0].Params) + len(m.Funcs[0].Locals), n})
				for arg := low; arg <= min(high, 2); arg++ {
					if arg == 0 || (op != api.Push && op != api.Fail) {
						choices = append(choices, api.Instr{Op: op, Arg: arg})
					}
				}
			}
			total := 1
			for i := 0; i < n; i++ {
				total *= len(choices)
			}
			for c := 0; c < total; c++ {
				l := []api.Instr{}
				for i, rest := 0, c; i < n; i++ {
					l = append(l, choices[rest%len(choices)])
					rest /= len(choices)
				}
				m.Funcs[0].Code = l
				all++
				if agree(t, m) {
					sound++
				}
			}
		}
		if sound < 100 || sound > all-100 {
			t.Errorf("shape %d: %d of %d are sound", k, sound, all)
		}
	}
}

// maker writes code that goes well: each piece leaves the stack and the places as they were.
type maker struct {
	r      *rand.Rand
	m      *api.Module
	f      *api.Func
	left   int // so many values may still be laid on the stack
	empty  map[int]bool
	vary   bool // numbers come from all sorts of code, and most loops end: code to be run
	script bool // things are made and stored by the module's functions alone: see madeHouse
}

func (g *maker) add(op, arg int) int {
	g.f.Code = append(g.f.Code, api.Instr{Op: op, Arg: arg})
	return len(g.f.Code) - 1
}

// get puts a value of a kind.
func (g *maker) get(kind int) {
	if kind > 0 && !g.script && g.r.Intn(2) == 0 {
		g.add(api.Fetch, kind)
		return
	}
	if g.vary {
		g.number(2)
	} else {
		g.add(api.Push, g.r.Intn(256))
	}
	switch {
	case kind > 0 && g.script:
		g.add(api.Call, 2*kind-2)
	case kind > 0:
		g.add(api.Make, kind)
	}
}

// rid takes a value of a kind away.
func (g *maker) rid(kind int) {
	switch {
	case kind == 0 || (g.m.Kinds[kind-1] >= 2 && g.r.Intn(2) == 0):
		g.add(api.Drop, 0)
	case g.script:
		g.add(api.Push, g.r.Intn(9))
		g.add(api.Call, 2*kind-1)
	case g.r.Intn(2) == 0 && g.left > 1:
		g.add(api.Push, g.r.Intn(8))
		g.add(api.Store, kind)
	default:
		g.add(api.Open, kind)
		g.add(api.Drop, 0)
	}
}

func (g *maker) place(p int) int {
	if p < len(g.f.Params) {
		return g.f.Params[p]
	}
	return g.f.Locals[p-len(g.f.Params)]
}

func (g *maker) pieces(deep int) {
	for n := g.r.Intn(3); n >= 0; n-- {
		g.piece(deep)
	}
}

func (g *maker) piece(deep int) {
	if deep == 0 || g.left < 5 || len(g.f.Code) > 55 || g.vary && g.left < 7 {
		return
	}
	kind := g.r.Intn(len(g.m.Kinds) + 1)
	switch g.r.Intn(9) {
	case 0: // a value lies below
		g.get(kind)
		g.left--
		g.pieces(deep - 1)
		g.left++
		g.rid(kind)
	case 1:
		g.get(0)
		g.get(0)
		g.add(pick(g.r, api.Add, api.Same), 0)
		g.add(api.Drop, 0)
	case 2: // one way of two
		g.get(0)
		from := g.add(api.JumpIf, 0)
		g.pieces(deep - 1)
		over := g.add(api.Jump, 0)
		g.f.Code[from].Arg = len(g.f.Code)
		g.pieces(deep - 1)
		g.f.Code[over].Arg = len(g.f.Code)
		g.get(0)
		g.add(api.Drop, 0)
	case 3: // again and again
		if g.vary {
			g.count(deep)
			return
		}
		from := len(g.f.Code)
		g.pieces(deep - 1)
		g.get(0)
		g.add(api.JumpIf, from)
	case 4:
		g.callOf(g.r.Intn(len(g.m.Funcs)))
	case 5:
		g.keepIn(deep)
	case 6: // never reached
		from := g.add(api.Jump, 0)
		for n := g.r.Intn(3); n > 0; n-- {
			g.add(pick(g.r, api.Add, api.Same), 0)
		}
		g.f.Code[from].Arg = len(g.f.Code)
		g.get(0)
		g.add(api.Drop, 0)
	case 7:
		if len(g.m.Kinds) > 0 {
			g.get(0)
			g.add(api.Has, pick(g.r, 1, len(g.m.Kinds)))
			g.add(api.Drop, 0)
		}
	case 8:
		g.get(0)
		from := g.add(api.JumpIf, 0)
		g.add(api.Fail, g.r.Intn(256))
		g.f.Code[from].Arg = len(g.f.Code)
		g.get(0)
		g.add(api.Drop, 0)
	}
}

func (g *maker) callOf(k int) {
	for _, kind := range g.m.Funcs[k].Params {
		g.get(kind)
	}
	g.add(api.Call, k)
	for i := len(g.m.Funcs[k].Results) - 1; i >= 0; i-- {
		g.rid(g.m.Funcs[k].Results[i])
	}
}

// keepIn: an empty place is full for a while, or a full one is copied or empty for a while.
func (g *maker) keepIn(deep int) {
	places := len(g.f.Params) + len(g.f.Locals)
	if places == 0 {
		return
	}
	p := g.r.Intn(places)
	kind := g.place(p)
	if g.empty[p] {
		g.get(kind)
		g.add(api.Keep, p)
		g.empty[p] = false
		g.pieces(deep - 1)
		g.empty[p] = true
		g.add(api.Move, p)
		g.rid(kind)
		return
	}
	if (kind == 0 || g.m.Kinds[kind-1]%2 == 1) && g.r.Intn(2) == 0 {
		g.add(api.Copy, p)
		g.rid(kind)
		return
	}
	g.add(api.Move, p)
	g.empty[p] = true
	g.left--
	g.pieces(deep - 1)
	g.left++
	g.empty[p] = false
	g.add(api.Keep, p)
}

func (g *maker) write(f *api.Func) {
	g.f, g.left, g.empty = f, 16, map[int]bool{}
	for i := range f.Locals {
		g.empty[len(f.Params)+i] = true
	}
	g.pieces(4)
	for p, kind := range f.Params {
		g.add(api.Move, p)
		g.empty[p] = true
		g.rid(kind)
	}
	for _, kind := range f.Results {
		g.get(kind)
	}
	g.add(api.Ret, 0)
}

func kindList(r *rand.Rand, most, kinds int) []int {
	l := make([]int, r.Intn(most+1))
	for i := range l {
		l[i] = r.Intn(kinds + 1)
	}
	return l
}

// madeModule: a module whose functions are sound.
func madeModule(r *rand.Rand) api.Module {
	m := api.Module{Kinds: make([]int, r.Intn(7))}
	for i := range m.Kinds {
		m.Kinds[i] = r.Intn(4)
	}
	for n := pick(r, 1, 4); n > 0; n-- {
		m.Funcs = append(m.Funcs, api.Func{Params: kindList(r, 4, len(m.Kinds)), Results: kindList(r, 3, len(m.Kinds)), Locals: kindList(r, 4, len(m.Kinds))})
	}
	g := &maker{r: r, m: &m}
	for i := range m.Funcs {
		g.write(&m.Funcs[i])
	}
	return m
}

// spoil changes one thing; the module is still one.
func spoil(r *rand.Rand, m api.Module) {
	f := &m.Funcs[r.Intn(len(m.Funcs))]
	e := env{len(m.Kinds), len(m.Funcs), len(f.Params) + len(f.Locals), len(f.Code)}
	x := &f.Code[r.Intn(len(f.Code))]
	for {
		op := x.Op
		if r.Intn(2) == 0 {
			op = r.Intn(19)
		}
		if low, high := argsOf(op, e); low <= high {
			*x = api.Instr{Op: op, Arg: pick(r, low, high)}
			return
		}
		if r.Intn(50) == 0 {
			return
		}
	}
}

func TestCheckOfMadeModules(t *testing.T) {
	r := rand.New(rand.NewSource(5))
	sound, not := 0, 0
	for k := 0; k < 4000; k++ {
		m := madeModule(r)
		if _, e := coffer.Encode(m); e != api.OK {
			continue
		}
		if !agree(t, m) {
			t.Fatalf("a made module is not sound: %s", tell(m))
		}
		for n := 0; n < 5; n++ {
			spoil(r, m)
			if agree(t, m) {
				sound++
			} else {
				not++
			}
		}
	}
	if sound < 1000 || not < 1000 {
		t.Errorf("%d spoilt modules are sound, %d are not", sound, not)
	}
}

// Whatever the bytes: Check refuses what Decode refuses, in the same way; else it answers what the model does, and the same once more.
func TestCheckOfAnyBytes(t *testing.T) {
	r := rand.New(rand.NewSource(6))
	for k := 0; k < 6000; k++ {
		l := []byte(bytesOf(someModule(r, 1+r.Intn(100))))
		for n := r.Intn(4); n > 0; n-- {
			l[r.Intn(len(l))] = byte(r.Intn(1 + r.Intn(256)))
		}
		b := string(l)
		if r.Intn(4) == 0 {
			b = b[:r.Intn(len(b))]
		}
		m, want, place := coffer.Decode(b)
		if want == api.OK {
			want, place = modelCheck(m)
		}
		wantCheckOf(t, b, want, place)
		coffer.Check(bank)
		wantCheckOf(t, b, want, place)
	}
}
