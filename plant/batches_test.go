package plant_test

import (
	"slices"
	"strconv"
	"strings"
	"testing"

	"etalon/api"
	"etalon/plant"
)

// boxOf returns the box of a layer.
func boxOf(index, thick api.Range, loss int) api.LayerBox {
	return api.LayerBox{Index: index, Thick: thick, Loss: loss}
}

// taskOf returns a task of one demand on the substrate of the setups.
func taskOf(text string, boxes ...api.LayerBox) api.BandTask {
	return api.BandTask{Demands: []api.BandDemand{demand(text)}, Layers: boxes, On: api.Substrate{Index: 40000}}
}

// batchWith returns a log with the batch b1 of a product, of which some layers are grown.
func batchWith(product, layers string, stops ...string) []api.PlantEntry {
	l := coatedWith(product, layers, stops...)
	return logOf(l[:len(l)-1]...)
}

const (
	wideDim   = "absorbed p 10000 0 3000 3500 7500 0 10000"
	narrowDim = "reflected s 10000 0 0 5000 6000 0 10000"
)

// P10.4: TasksOf.
func TestTasksOf(t *testing.T) {
	h := just(20000)
	for _, x := range []struct {
		name  string
		log   []api.PlantEntry
		want  []api.BandTask
		errno api.Errno
	}{
		{"the chapter's first example", logOf(done()...), []api.BandTask{taskOf(antireflex, boxOf(h, just(500), 0))}, api.OK},
		{"nothing is grown: the recipe's thickness", batchWith("ar", "H:480"), []api.BandTask{taskOf(antireflex, boxOf(h, just(480), 0))}, api.OK},
		{"one layer of two is grown", batchWith("ar", "H:480,L:7", "470 490"), []api.BandTask{taskOf(antireflex, boxOf(h, span(470, 490), 0), boxOf(just(14500), just(7), 0))}, api.OK},
		{"all layers are grown", batchWith("ar", "H:480,L:7", "470 490", "0 9"), []api.BandTask{taskOf(antireflex, boxOf(h, span(470, 490), 0), boxOf(just(14500), span(0, 9), 0))}, api.OK},
		{"an aborted batch", append(batchWith("ar", "H:480,H:9", "1 2"), entry("ann abort")), []api.BandTask{taskOf(antireflex, boxOf(h, span(1, 2), 0), boxOf(h, just(9), 0))}, api.OK},
		{"two demands, each over its wavelengths", batchWith("any", "M:5"), []api.BandTask{
			taskOf(wideDim, boxOf(span(19100, 19900), just(5), 100)), taskOf(narrowDim, boxOf(span(19400, 19600), just(5), 100)),
		}, api.OK},
		{"the version with which it was begun", append(batchWith("ar", "H:480"), entry("bob change r 1 H:9")), []api.BandTask{taskOf(antireflex, boxOf(h, just(480), 0))}, api.OK},
		{"a loss that changes", batchWith("any", "H:1,K:5"), nil, api.ErrUnit},
		{"one wavelength of that: 100 and 20", batchWith("ar", "K:5"), []api.BandTask{taskOf(antireflex, boxOf(h, just(5), 120))}, api.OK},
		{"a material without this wavelength", batchWith("ar", "N:5"), nil, api.ErrNone},
		{"a material without some wavelengths", batchWith("any", "N:5"), nil, api.ErrNone},
		{"the first layer decides", batchWith("any", "N:5,K:5"), nil, api.ErrNone},
		{"the other layer first", batchWith("any", "K:5,N:5"), nil, api.ErrUnit},
	} {
		tasks, e := plant.TasksOf(rich(), x.log, "b1")
		wantSame(t, x.name, tasks, e, x.want, x.errno)
	}
}

// P10.4: the first demand decides, not the first layer.
func TestTasksOfDemands(t *testing.T) {
	s := rich()
	s.Products = append(s.Products, product("far", "reflected s 10000 0 0 4000 4001 0 10000", "reflected s 10000 0 0 3000 9000 0 10000"))
	tasks, e := plant.TasksOf(s, batchWith("far", "H:1,K:5"), "b1")
	wantSame(t, "the first demand and the second layer", tasks, e, nil, api.ErrUnit)
	s.Products[4].Demands[0].Wave = just(4000)
	tasks, e = plant.TasksOf(s, batchWith("far", "H:1,K:5"), "b1")
	wantSame(t, "the second demand and the first layer", tasks, e, nil, api.ErrNone)
}

// P10.4: which errors there are of the log and of the batch.
func TestBatchOf(t *testing.T) {
	for _, x := range []struct {
		name  string
		log   []api.PlantEntry
		batch string
		errno api.Errno
	}{
		{"no batch", nil, "b1", api.ErrMissing},
		{"another name", logOf(done()...), "b2", api.ErrMissing},
		{"byte by byte", logOf(done()...), "B1", api.ErrMissing},
		{"an empty name", logOf(done()...), "", api.ErrMissing},
		{"the recipe", logOf(done()...), "r", api.ErrMissing},
		{"a part", logOf(done()...), "p", api.ErrMissing},
		{"a wrong log", logOf(done()[1:]...), "b2", api.ErrMissing},
		{"another wrong log", logOf("ann done"), "b1", api.ErrState},
		{"a long log", slices.Repeat(logOf("ann switch pump"), 61), "b1", api.ErrLarge},
	} {
		tasks, e := plant.TasksOf(plain(), x.log, x.batch)
		wantSame(t, x.name, tasks, e, nil, x.errno)
		answer, e := plant.AnswerOf(plain(), x.log, x.batch)
		wantSame(t, x.name, answer, e, api.PlantAnswer{}, x.errno)
		explained, e := plant.ExplainedOf(plain(), x.log, x.batch)
		wantSame(t, x.name, explained, e, 0, x.errno)
	}
}

// P10.4: AnswerOf.
func TestAnswerOf(t *testing.T) {
	yes, maybe := api.PlantAnswer{Answer: api.AnswerYes}, api.PlantAnswer{Answer: api.AnswerMaybe}
	no := func(demand, wave, sine int) api.PlantAnswer {
		return api.PlantAnswer{Point: api.BandPoint{Demand: demand, Wave: wave, Sine: sine}}
	}
	for _, x := range []struct {
		name string
		log  []api.PlantEntry
		want api.PlantAnswer
	}{
		{"the chapter's first example", logOf(done()...), yes},
		{"the second one", batchWith("ar", "H:500", "0 0"), no(0, 4000, 0)},
		{"nothing is grown", batchWith("ar", "H:500"), yes},
		{"nothing is grown of a wrong recipe", batchWith("ar", "H:0"), no(0, 4000, 0)},
		{"what is grown makes up for the recipe", batchWith("ar", "H:0", "500 500"), yes},
		{"the other layer is still to grow", batchWith("ar", "H:250,H:250", "250 250"), yes},
		{"the other layer has gone wrong", batchWith("ar", "H:250,H:250", "250 250", "700 700"), no(0, 4000, 0)},
		{"an aborted batch", append(batchWith("ar", "H:500"), entry("ann abort")), yes},
		{"thicknesses within which it is kept", batchWith("ar", "H:500", "490 510"), yes},
		{"thicknesses within which it may be broken", batchWith("ar", "H:500", "0 1000"), maybe},
		{"the second demand is open", batchWith("dim", "L:0"), maybe},
		{"both demands are kept", batchWith("two", "H:500"), yes},
		{"both demands are broken: the first one", batchWith("two", "H:0"), no(0, 4000, 0)},
		{"a task that cannot be made", batchWith("ar", "N:1"), maybe},
		{"the loss of one cannot be told", batchWith("any", "K:1"), maybe},
	} {
		answer, e := plant.AnswerOf(rich(), x.log, "b1")
		wantSame(t, x.name, answer, e, x.want, api.OK)
	}
}

// P10.4: an AnswerNo counts more than a task that cannot be made, or is open, wherever this stands.
func TestAnswerOfDemands(t *testing.T) {
	const (
		yes    = "transmitted s 10000 0 0 4000 4000 6300 6500"
		open   = "reflected s 10000 0 0 4000 4000 3600 3600"
		far    = "reflected s 10000 0 0 9000 9000 0 10000"
		no     = "absorbed s 10000 0 0 4000 4000 1 10000"
		sloped = "reflected s 10000 3000 5000 4000 5000 9000 10000"
	)
	for _, x := range []struct {
		name    string
		demands []string
		answer  int
		point   api.BandPoint
	}{
		{"yes", []string{yes, yes}, api.AnswerYes, api.BandPoint{}},
		{"no behind yes", []string{yes, no, yes}, api.AnswerNo, api.BandPoint{Demand: 1, Wave: 4000}},
		{"no behind an open one", []string{open, no}, api.AnswerNo, api.BandPoint{Demand: 1, Wave: 4000}},
		{"no behind one that cannot be made", []string{far, open, yes, no}, api.AnswerNo, api.BandPoint{Demand: 3, Wave: 4000}},
		{"the first no", []string{far, sloped, no}, api.AnswerNo, api.BandPoint{Demand: 1, Wave: 4500, Sine: 4000}},
		{"open", []string{yes, open, yes}, api.AnswerMaybe, api.BandPoint{}},
		{"not made", []string{yes, yes, far}, api.AnswerMaybe, api.BandPoint{}},
		{"not made at first", []string{far, yes}, api.AnswerMaybe, api.BandPoint{}},
	} {
		s := rich()
		s.Products[0] = product("ar", x.demands...)
		log := logOf("bob recipe r ar H:0", "ann batch b1 r 1 w")
		answer, e := plant.AnswerOf(s, log, "b1")
		wantSame(t, x.name, answer, e, api.PlantAnswer{Answer: x.answer, Point: x.point}, api.OK)
	}
}

// predictedOf is a reading at a wavelength with N, C and S from lo to hi each.
func predictedOf(wave int, n, c, s api.Range) string {
	l := []string{"z", strconv.Itoa(wave), "10000", "0"}
	for _, r := range []api.Range{n, c, s} {
		l = append(l, strconv.Itoa(r.Lo), strconv.Itoa(r.Hi))
	}
	return strings.Join(l, " ")
}

// P10.4: ExplainedOf. Half a wave of H, or nothing at all, is read as in the first example of chapter 7: N -6 to 6,
// C -1048576 to -1048562, S -9 to 9.
func TestExplainedOf(t *testing.T) {
	wide, n, c, s := span(-api.One, api.One), span(-10, 10), span(-api.One, -1048000), span(-10, 10)
	right := predictedOf(4000, n, c, s)
	wrong := predictedOf(4000, n, c, span(100, 200))
	open := predictedOf(4000, span(0, 10), c, s)
	outside, lossy := predictedOf(9000, wide, wide, wide), predictedOf(4001, wide, wide, wide)
	anything := predictedOf(4001, wide, wide, wide)
	for _, x := range []struct {
		name     string
		layers   string
		stops    []string
		readings []string
		want     int
	}{
		{"no readings", "H:1000", []string{"1000 1000"}, nil, api.AnswerMaybe},
		{"one that is explained", "H:1000", []string{"1000 1000"}, []string{right}, api.AnswerYes},
		{"another wavelength too", "H:1000", []string{"1000 1000"}, []string{right, anything}, api.AnswerYes},
		{"what is grown is looked at", "H:500", []string{"1000 1000"}, []string{right}, api.AnswerYes},
		{"one that is refuted", "H:1000", []string{"1000 1000"}, []string{wrong}, api.AnswerNo},
		{"refuted, and explained", "H:1000", []string{"1000 1000"}, []string{right, wrong, right}, api.AnswerNo},
		{"refuted behind one that is undecided", "H:1000", []string{"1000 1000"}, []string{open, wrong}, api.AnswerNo},
		{"refuted behind one outside of the material", "H:1000", []string{"1000 1000"}, []string{outside, wrong}, api.AnswerNo},
		{"one that is undecided", "H:1000", []string{"1000 1000"}, []string{open}, api.AnswerMaybe},
		{"one of three", "H:1000", []string{"1000 1000"}, []string{right, open, right}, api.AnswerMaybe},
		{"one outside of the material", "H:1000", []string{"1000 1000"}, []string{outside}, api.AnswerMaybe},
		{"and one that is explained", "H:1000", []string{"1000 1000"}, []string{outside, right}, api.AnswerMaybe},
		{"a loss that is not one number there", "K:0", []string{"0 0"}, []string{lossy}, api.AnswerMaybe},
		{"a loss that is one number there", "K:0", []string{"0 0"}, []string{right}, api.AnswerYes},
		{"as many layers as are fitted", "H:0*5 H:1000", []string{"0 0", "0 0", "0 0", "0 0", "0 0", "1000 1000"}, []string{right}, api.AnswerYes},
		{"one layer more", "H:0*6 H:1000", []string{"0 0", "0 0", "0 0", "0 0", "0 0", "0 0", "1000 1000"}, []string{wrong}, api.AnswerMaybe},
		{"wider thicknesses", "H:1000", []string{"900 1100"}, []string{right}, api.AnswerMaybe},
	} {
		log := logOf(coatedWith("any", x.layers, x.stops...)...)
		for _, r := range x.readings {
			log = append(log, by("ann", "measure b1 "+r))
		}
		wantLog(t, rich(), log)
		explained, e := plant.ExplainedOf(rich(), log, "b1")
		wantSame(t, x.name, explained, e, x.want, api.OK)
		errno := api.OK
		answer := must[api.PlantAnswer](t)(plant.AnswerOf(rich(), log, "b1"))
		if x.want == api.AnswerNo || answer.Answer != api.AnswerYes {
			errno = api.ErrProof
		}
		wantErrno(t, x.name+", certified", wantAccepted(t, rich(), log, entry("cid certify p")), errno)
	}
}

// P10.4: the readings of one batch say nothing of another one.
func TestExplainedOfEach(t *testing.T) {
	log := logOf(append(done(), "ann batch b2 r 1 q", "ann stop 0 0 0", "ann done", "ann measure b2 "+readingText, "ann batch b3 r 1 o")...)
	for i, want := range []int{api.AnswerMaybe, api.AnswerYes, api.AnswerMaybe} {
		explained, e := plant.ExplainedOf(rich(), log, "b"+strconv.Itoa(i+1))
		wantSame(t, "b"+strconv.Itoa(i+1), explained, e, want, api.OK)
	}
}
