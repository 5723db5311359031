package recipe_test

import (
	"maps"
	"slices"
	"strconv"
	"testing"

	"herald/api"
	"herald/place"
)

// letters are calls that go on from how a machine stands.
func letters() map[string]func(l *life) {
	all := map[string]func(l *life){
		"begin": func(l *life) { l.begin() },
		"leave": func(l *life) { l.leave() },
		"end":   func(l *life) { l.hear(told(api.ToldEnd)) },
		"gone":  func(l *life) { l.hear(told(api.ToldGone)) },
		"call": func(l *life) {
			l.request++
			l.hear(called(l.request, l.g.ops...))
		},
		"call 0":     func(l *life) { l.hear(called(0, l.g.ops...)) },
		"other call": func(l *life) { l.hear(called(l.request+90, lists("/m"))) },
		"few":        func(l *life) { l.asks(results(l.now())) },
		"watch": func(l *life) {
			l.id++
			l.hear(watched(l.id, l.wanted().Place, l.wanted().Watch))
		},
		"watch 0":     func(l *life) { l.hear(watched(0, l.wanted().Place, l.wanted().Watch)) },
		"other watch": func(l *life) { l.hear(watched(l.id+90, "/m", l.wanted().Watch)) },
		"refused":     func(l *life) { l.hear(refused(l.id, "/l", 1, api.ErrFull)) },
		"gone watch":  func(l *life) { l.hear(refused(l.id, "/l", 1, api.ErrNoNode)) },
		"drop first":  func(l *life) { l.hear(taken(event(l.now(), l.dropsFirst()...))) },
		"drop own":    func(l *life) { l.hear(taken(event(l.now(), dropsNode(l.ownPlace(), l.id)))) },
		"make ahead":  func(l *life) { l.hear(taken(event(l.now(), makesNode(one(l.job.Kind), "a", l.id)))) },
		"make own":    func(l *life) { l.hear(taken(event(l.now(), makesNode(l.ownPlace(), "o", l.id)))) },
		"other event": func(l *life) { l.hear(taken(event(l.now(), dropsNode(l.ownPlace(), l.id+1)))) },
		"old event":   func(l *life) { l.hear(taken(event(3, makesNode(two(l.job.Kind), "b", l.id)))) },
	}
	for _, code := range []api.Errno{api.ErrNoNode, api.ErrExists, api.ErrVersion, api.ErrSession, api.ErrFull} {
		all["code "+strconv.Itoa(int(code))] = func(l *life) { l.asks(refusal(l.now(), code)) }
	}
	for i := range 4 {
		all["good "+strconv.Itoa(i)] = func(l *life) { l.asks(l.good(i)) }
		all["grant "+strconv.Itoa(i)] = func(l *life) { l.hear(granted(l.id, l.shot(i))) }
		all["marker "+strconv.Itoa(i)] = func(l *life) { l.hear(taken(marker(l.now(), api.Part{Id: l.id, Shot: l.shot(i)}))) }
	}
	return all
}

// asks: the open request is called, if it was not, and answered.
func (l *life) asks(r api.Reply) {
	l.t.Helper()
	if l.g.number == 0 {
		l.request++
		l.hear(called(l.request, l.g.ops...))
	}
	l.hear(answered(l.g.number, r))
}

// now is a stamp that rises.
func (l *life) now() int {
	l.stamp++
	return 10 + l.stamp
}

// wanted is the watch of which the id may be told next.
func (l *life) wanted() api.Wish {
	if l.g.watch.Kind != 0 {
		return l.g.watch
	}
	return l.watch
}

func (l *life) ownPlace() string {
	if l.g.held.Place != "" {
		return l.g.held.Place
	}
	return own(l.job.Kind)
}

// dropsFirst drops the first node of the picture that is not Base.
func (l *life) dropsFirst() []api.Tagged {
	for _, n := range l.g.picture.Nodes {
		if n.Place != l.job.Base || l.g.picture.Kind == api.WatchNode {
			return []api.Tagged{dropsNode(n.Place, l.id)}
		}
	}
	return nil
}

// good is an answer to the open request that is OK; there are several.
func (l *life) good(which int) api.Reply {
	stamp := l.now()
	name, own := nameOf(l.job.Kind), l.g.own()
	if own == "" {
		own = name + "00003"
	}
	var all []api.Result
	for _, o := range l.g.ops {
		r := api.Result{Place: o.Place, Version: which, Made: stamp, Changed: stamp}
		r.Data = []string{"0", "7", "x", "2147483647"}[which]
		r.Kids = [][]string{{own}, {own, name + "00001", "other", name + "00002"}, {}, {name + "00009", name + "000001"}}[which]
		if o.Flags&counted != 0 {
			r.Place = "/l/" + []string{own, name + "00004", "other", name + "00000"}[which]
		}
		all = append(all, r)
	}
	return results(stamp, all...)
}

// shot is a picture of the present watch; there are several.
func (l *life) shot(which int) api.Shot {
	w := l.wanted()
	s := shotOf(l.now(), w.Place, w.Watch)
	kind := l.job.Kind
	texts := [][]string{{}, {l.ownPlace(), "o"}, {one(kind), "a", l.ownPlace(), "o"}, {two(kind), "b"}}[which]
	switch w.Watch {
	case api.WatchNode:
		s.Nodes = [][]api.Seen{nil, seen(w.Place, "o"), seen(w.Place, "a"), nil}[which]
	case api.WatchSubtree:
		s.Nodes = seen(append([]string{"/l", ""}, texts...)...)
	case api.WatchKids:
		s.Nodes = bare("/l")
		for pair := range slices.Chunk(texts, 2) {
			s.Nodes = append(s.Nodes, api.Seen{Place: pair[0]})
		}
	}
	slices.SortFunc(s.Nodes, byPlace)
	s.Nodes = slices.Compact(s.Nodes)
	return s
}

// play plays a script from the beginning of a machine's life.
func play(t *testing.T, s standing, all map[string]func(l *life), script ...string) {
	t.Helper()
	l := s.live(t)
	for _, name := range script {
		all[name](l)
	}
	if t.Failed() {
		t.Fatalf("the machine %s; then %q", s, script)
	}
}

// TestSmallScripts: P20.2 to P20.11, from each standing all scripts of two letters, against the second reckoning.
func TestSmallScripts(t *testing.T) {
	t.Parallel()
	all := letters()
	names := slices.Sorted(maps.Keys(all))
	for _, s := range standings() {
		for _, a := range names {
			for _, b := range names {
				play(t, s, all, a, b)
			}
		}
	}
}

// TestNarrowScripts: all scripts of five letters out of nine, each of which brings a machine on.
func TestNarrowScripts(t *testing.T) {
	t.Parallel()
	all := letters()
	narrow := map[string]func(l *life){
		"ask 0":   all["good 0"],
		"ask 1":   all["good 1"],
		"none":    all["code 40"],
		"begin":   all["begin"],
		"leave":   all["leave"],
		"end":     all["end"],
		"see 0":   func(l *life) { all["watch"](l); all["grant 0"](l) },
		"see all": func(l *life) { all["watch"](l); all["grant 2"](l) },
		"drop":    all["drop first"],
	}
	names := slices.Sorted(maps.Keys(narrow))
	for _, kind := range allKinds() {
		s := standing{name: "based", kind: kind, way: based}
		for n := range 9 * 9 * 9 * 9 * 9 {
			var script []string
			for rest := n; len(script) < 5; rest /= 9 {
				script = append(script, names[rest%9])
			}
			play(t, s, narrow, script...)
		}
	}
}

// TestLongScripts: long scripts by chance, against the second reckoning; jobs of all kinds, sizes and bases.
func TestLongScripts(t *testing.T) {
	t.Parallel()
	all := letters()
	names := slices.Sorted(maps.Keys(all))
	seen := map[string]int{}
	for seed := range uint64(2500) {
		c := chanceOf(seed, 20)
		job := jobOf(pick(c, allKinds()...))
		if job.Size > 0 {
			job.Size = 1 + c.IntN(4)
		}
		job.Base = pick(c, "/l", "/l", "/l", "/", "/l/m")
		l := born(t, job)
		for calls := 0; calls < 120 && (l.g.held.Phase != api.HeldDone || c.IntN(12) > 0); calls++ {
			name := pick(c, names...)
			// What leads on comes more often, what ends all more seldom.
			if c.IntN(3) == 0 {
				name = pick(c, "good 0", "good 1", "watch", "grant 2", "begin", "drop first", "make own")
			} else if (name == "leave" || name == "end" || name == "gone") && c.IntN(4) > 0 {
				continue
			}
			all[name](l)
			if c.IntN(10) == 0 {
				l.hear(c.told(l))
			}
			if t.Failed() {
				t.Fatalf("seed %d", seed)
			}
			seen["phase "+strconv.Itoa(l.g.held.Phase)]++
			seen["open "+l.g.open]++
		}
	}
	for _, what := range []string{"phase 0", "phase 1", "phase 2", "phase 3", "phase 4", "open ", "open base", "open own", "open list", "open get", "open set", "open two", "open drop"} {
		if seen[what] < 200 {
			t.Errorf("the scripts have %q only %d times", what, seen[what])
		}
	}
}

// told is something by chance.
func (c chance) told(l *life) api.Told {
	id := pick(c, 0, l.id, l.id, l.id, l.id+1, max(0, l.id-1))
	at := pick(c, "/", "/l", one(l.job.Kind), two(l.job.Kind), own(l.job.Kind), "/l/other", l.ownPlace())
	stamp := pick(c, l.now(), l.now(), 0, 3, l.g.picture.Stamp)
	ids := pick(c, []int{id}, []int{id}, []int{id, id + 1}, nil)
	var changes []api.Tagged
	for range c.IntN(3) {
		changes = append(changes, pick(c, makesNode(at, "m", ids...), setsNode(at, "s", 1, ids...), dropsNode(at, ids...)))
		at = pick(c, one(l.job.Kind), own(l.job.Kind), two(l.job.Kind))
	}
	t := pick(c, taken(event(stamp, changes...)), taken(event(stamp, changes...)), watched(id, at, 1+c.IntN(3)), refused(id, at, 1, api.ErrFull), called(l.request, lists(at)), answered(pick(c, 0, 1, l.request), refusal(stamp, api.ErrFull)), told(c.IntN(12)))
	if _, code := place.Parse(at); code == api.OK && c.IntN(5) == 0 {
		t = granted(id, l.shot(c.IntN(4)))
	}
	return t
}
