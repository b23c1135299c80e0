package coffer_test

import (
	"fmt"
	"maps"
	"math/rand"
	"strings"
	"testing"

	"coffer/api"
	"coffer/coffer"
)

// value: a number (kind 0) or a thing, as the document has them.
type value struct{ kind, worth int }

// world: a second, plain ledger. It looks at every value's kind while it runs: what Check accepts must never go wrong there.
type world struct {
	m         api.Module
	held      map[[2]int]int // account and kind
	who       int
	gas, used int
	wrong     string // what went wrong that never should
}

// stop: a run is given up.
type stop struct {
	e    api.Errno
	code int
}

func (w *world) may(kind, what int) bool { return kind == 0 || w.m.Kinds[kind-1]/what%2 == 1 }

func (w *world) amiss(f string, args ...any) {
	w.wrong = fmt.Sprintf(f, args...)
	panic(stop{})
}

// lose: a value goes out of the world.
func (w *world) lose(v *value) {
	if v != nil && !w.may(v.kind, 2) {
		w.amiss("a thing of kind %d is lost", v.kind)
	}
}

// call: a function that begins, with so many calls going on already.
func (w *world) call(f api.Func, params []value, going int) []value {
	if going == 8 {
		panic(stop{e: api.ErrDeep})
	}
	stack := []value{}
	put := func(kind, worth int) { stack = append(stack, value{kind, worth}) }
	take := func(kind int) int {
		v := stack[len(stack)-1]
		if stack = stack[:len(stack)-1]; kind >= 0 && v.kind != kind {
			w.amiss("a value of kind %d for kind %d", v.kind, kind)
		}
		return v.worth
	}
	places := make([]*value, len(f.Params)+len(f.Locals))
	for i := range params {
		places[i] = &params[i]
	}
	bit := func(yes bool) {
		if yes {
			put(0, 1)
		} else {
			put(0, 0)
		}
	}
	for at := 0; ; {
		if w.used == w.gas {
			panic(stop{e: api.ErrGas})
		}
		w.used++
		x := f.Code[at]
		at++
		switch name := opNames[x.Op]; name {
		case "ret":
			for _, v := range places {
				w.lose(v)
			}
			return stack
		case "push":
			put(0, x.Arg)
		case "add", "sub", "less", "same":
			b := take(0)
			a := take(0)
			sum := map[string]int{"add": a + b, "sub": a - b}[name]
			switch {
			case sum < 0 || sum > 1000000000:
				panic(stop{e: api.ErrOver})
			case name == "less":
				bit(a < b)
			case name == "same":
				bit(a == b)
			default:
				put(0, sum)
			}
		case "jump":
			at = x.Arg
		case "jumpif":
			if take(0) != 0 {
				at = x.Arg
			}
		case "copy":
			v := *places[x.Arg]
			if !w.may(v.kind, 1) {
				w.amiss("a thing of kind %d is doubled", v.kind)
			}
			put(v.kind, v.worth)
		case "move":
			v := *places[x.Arg]
			places[x.Arg] = nil
			put(v.kind, v.worth)
		case "keep":
			w.lose(places[x.Arg])
			v := stack[len(stack)-1]
			stack = stack[:len(stack)-1]
			places[x.Arg] = &v
		case "drop":
			w.lose(&stack[len(stack)-1])
			take(-1)
		case "make":
			put(x.Arg, take(0))
		case "open":
			put(0, take(x.Arg))
		case "call":
			g := w.m.Funcs[x.Arg]
			below := len(stack) - len(g.Params)
			handed := append([]value{}, stack[below:]...)
			for i, k := range g.Params {
				if handed[i].kind != k {
					w.amiss("parameter %d is of kind %d", i, handed[i].kind)
				}
			}
			stack = append(stack[:below:below], w.call(g, handed, going+1)...)
		case "fetch":
			n, there := w.held[[2]int{w.who, x.Arg}]
			if !there {
				panic(stop{e: api.ErrNone})
			}
			delete(w.held, [2]int{w.who, x.Arg})
			put(x.Arg, n)
		case "store", "has":
			who := take(0)
			if who > 7 {
				panic(stop{e: api.ErrArg})
			}
			_, there := w.held[[2]int{who, x.Arg}]
			if name == "has" {
				bit(there)
				continue
			}
			n := take(x.Arg)
			if there {
				panic(stop{e: api.ErrThere})
			}
			w.held[[2]int{who, x.Arg}] = n
		case "fail":
			panic(stop{api.ErrFail, x.Arg})
		}
		if len(stack) > 16 {
			w.amiss("%d values on a stack", len(stack))
		}
	}
}

// run: a sound script.
func (w *world) run(f api.Func, who, gas int) (out api.Outcome) {
	before := maps.Clone(w.held)
	w.who, w.gas, w.used = who, gas, 0
	defer func() {
		if s, given := recover().(stop); given {
			w.held = before
			out = api.Outcome{Err: s.e, Code: s.code, Used: w.used}
		}
	}()
	w.call(f, nil, 0)
	return api.Outcome{Used: w.used}
}

// scriptIn: the script that bytes are, as a last function of the module (which has less than eight): so Decode tells whether they are a function's.
func (w *world) scriptIn(b string) (api.Func, bool) {
	whole := by(67, 70, len(w.m.Kinds)) + by(w.m.Kinds...) + by(len(w.m.Funcs)+1)
	for _, f := range w.m.Funcs {
		whole += funcBytes(f)
	}
	m, e, _ := coffer.Decode(whole + b)
	if e != api.OK {
		return api.Func{}, false
	}
	f := m.Funcs[len(w.m.Funcs)]
	for _, x := range f.Code {
		if strings.Contains("make open fetch store", opNames[x.Op]) || x.Op == api.Call && x.Arg == len(w.m.Funcs) {
			return f, false
		}
	}
	return f, len(f.Params)+len(f.Results) == 0
}

// answer: what Run must answer.
func (w *world) answer(b string, who, gas int) api.Outcome {
	if who < 0 || who > 7 || gas < 0 || gas > 10000 {
		return api.Outcome{Err: api.ErrArg}
	}
	if len(b) > 1500 {
		return api.Outcome{Err: api.ErrLong}
	}
	f, fine := w.scriptIn(b)
	if !fine {
		return api.Outcome{Err: api.ErrForm}
	}
	p := picture{[]int{}, make([]bool, len(f.Locals))}
	for i := range p.empty {
		p.empty[i] = true
	}
	if !modelSound(w.m, f, 0, p, map[int]string{}) {
		return api.Outcome{Err: api.ErrFlow}
	}
	return w.run(f, who, gas)
}

// number puts a number, in one way or another; it takes the room of deep more.
func (g *maker) number(deep int) {
	way := g.r.Intn(8)
	if deep == 0 {
		way = 0
	}
	switch way {
	case 4:
		g.number(deep - 1)
		g.number(deep - 1)
		g.add([]int{api.Add, api.Add, api.Less, api.Same, api.Sub}[g.r.Intn(5)], 0)
		return
	case 5:
		for p := 0; p < len(g.f.Params)+len(g.f.Locals); p++ {
			if !g.empty[p] && g.place(p) == 0 {
				g.add(api.Copy, p)
				return
			}
		}
	case 6:
		if len(g.m.Kinds) > 0 {
			g.add(api.Push, g.r.Intn(8+g.r.Intn(2)))
			g.add(api.Has, pick(g.r, 1, len(g.m.Kinds)))
			return
		}
	case 7:
		if len(g.m.Kinds) > 0 && !g.script {
			kind := pick(g.r, 1, len(g.m.Kinds))
			g.number(deep - 1)
			g.add(api.Make, kind)
			g.add(api.Open, kind)
			return
		}
	}
	g.add(api.Push, []int{0, 1, 2, 3, 4, 5, 6, 7, 7, 255}[g.r.Intn(10)])
}

// count: a loop that ends, if there is a place to count in; else one that goes on if it is given something.
func (g *maker) count(deep int) {
	for p := len(g.f.Params) + len(g.f.Locals) - 1; p >= 0; p-- {
		if !g.empty[p] || g.place(p) != 0 {
			continue
		}
		g.add(api.Push, pick(g.r, 1, 4))
		g.add(api.Keep, p)
		from := len(g.f.Code)
		g.empty[p] = false
		g.pieces(deep - 1)
		g.empty[p] = true
		for _, x := range code(fmt.Sprintf("copy %d, push 1, sub, keep %d, copy %d, jumpif %d, move %d, drop", p, p, p, from, p)) {
			g.add(x.Op, x.Arg)
		}
		return
	}
	from := len(g.f.Code)
	g.pieces(deep - 1)
	g.number(1)
	g.add(api.JumpIf, from)
}

// madeHouse: a module with up to three kinds; functions 2k-2 and 2k-1 make and store things of kind k, further ones do all sorts of things. It has less than eight functions.
func madeHouse(r *rand.Rand) api.Module {
	m := api.Module{Kinds: make([]int, r.Intn(4))}
	for i := range m.Kinds {
		m.Kinds[i] = r.Intn(4)
		k := fmt.Sprint(i + 1)
		m.Funcs = append(m.Funcs, fn("0", k, "", "move 0, make "+k+", ret"), fn(k+"0", "", "", "move 0, move 1, store "+k+", ret"))
	}
	first := len(m.Funcs)
	for n := pick(r, 1, min(3, 7-first)); n > 0; n-- {
		m.Funcs = append(m.Funcs, api.Func{Params: kindList(r, 4, len(m.Kinds)), Results: kindList(r, 3, len(m.Kinds)), Locals: kindList(r, 4, len(m.Kinds))})
	}
	g := &maker{r: r, m: &m, vary: true}
	for i := first; i < len(m.Funcs); i++ {
		g.write(&m.Funcs[i])
	}
	return m
}

// madeScript: the bytes of a script, now and then with something spoilt, or those of any function.
func madeScript(r *rand.Rand, m api.Module) string {
	f := api.Func{Locals: kindList(r, 4, len(m.Kinds))}
	g := &maker{r: r, m: &m, vary: true, script: true}
	g.write(&f)
	if len(f.Code) > 100 {
		return scr("ret")
	}
	switch r.Intn(12) {
	case 0:
		spoil(r, api.Module{Kinds: m.Kinds, Funcs: []api.Func{f}})
	case 1:
		b := []byte(funcBytes(f))
		b[r.Intn(len(b))] = byte(r.Intn(1 + r.Intn(256)))
		return string(b)
	case 2:
		return funcBytes(f) + strings.Repeat("\x00", r.Intn(3)*700)
	case 3:
		b := bytesOf(someFunc(r, len(m.Kinds), len(m.Funcs), 6))
		if r.Intn(2) == 0 {
			b = by(0, 0, 0, r.Intn(3)) + b
		}
		return b[:len(b)-r.Intn(2)*r.Intn(len(b))]
	}
	return funcBytes(f)
}

func someGas(r *rand.Rand) int {
	switch r.Intn(12) {
	case 0:
		return anyNumbers[r.Intn(len(anyNumbers))]
	case 1:
		return r.Intn(60)
	case 2:
		return pick(r, 9900, 10010)
	}
	return 1000
}

func someWho(r *rand.Rand) int {
	if r.Intn(40) == 0 {
		return anyNumbers[r.Intn(len(anyNumbers))]
	}
	return r.Intn(8)
}

// heldIn: as all, but of the world.
func (w *world) heldIn() string {
	out := ""
	for who := 0; who < 8; who++ {
		for kind := 1; kind <= 6; kind++ {
			if n, there := w.held[[2]int{who, kind}]; there {
				out += fmt.Sprintf("%d holds %d of kind %d; ", who, n, kind)
			}
		}
	}
	return out
}

// Made modules, on each three ledgers side by side, and made scripts: the outcomes and the accounts are those of the model.
func TestRunOfMadeScripts(t *testing.T) {
	r := rand.New(rand.NewSource(8))
	seen := [11]int{}
	changed := 0
	for k := 0; k < 1000; k++ {
		m := madeHouse(r)
		b, e := coffer.Encode(m)
		if e != api.OK {
			continue
		}
		if !agree(t, m) {
			t.Fatalf("a made module is not sound: %s", tell(m))
		}
		ls, ws := []*coffer.Ledger{}, []*world{}
		for i := 0; i < 3; i++ {
			ls, ws = append(ls, ledger(t, b)), append(ws, &world{m: m, held: map[[2]int]int{}})
		}
		for n := 0; n < 40; n++ {
			i := r.Intn(3)
			l, w := ls[i], ws[i]
			script, who, gas := madeScript(r, m), someWho(r), someGas(r)
			was := w.heldIn()
			want := w.answer(script, who, gas)
			if w.wrong != "" {
				t.Fatalf("P5: %s: module %s script %v", w.wrong, tell(m), []byte(script))
			}
			seen[want.Err]++
			if w.heldIn() != was {
				changed++
			}
			got := l.Run(script, who, gas)
			if got != want || all(l) != w.heldIn() {
				t.Fatalf("P7: Run for %d with gas %d = %v, want %v; the accounts: %s, want %s; module %s script %v", who, gas, got, want, all(l), w.heldIn(), tell(m), []byte(script))
			}
		}
		for i := range ls {
			if all(ls[i]) != ws[i].heldIn() {
				t.Errorf("P2: ledger %d has changed with others: %s, want %s", i, all(ls[i]), ws[i].heldIn())
			}
		}
	}
	for e, n := range seen {
		if n < 100 {
			t.Errorf("error %d only %d times", e, n)
		}
	}
	if changed < 1000 {
		t.Errorf("only %d runs have changed something", changed)
	}
}
