package plant

import (
	"slices"

	"etalon/api"
	"etalon/band"
	"etalon/fit"
	"etalon/glass"
)

// coating is layers of materials that are there, each one's thickness, and the demands on them.
type coating struct {
	api.PlantSetup
	demands []api.BandDemand
	layers  []api.StackLayer
	thick   []api.Range
}

// coatingOf returns the coating of a batch. The layers that are not grown have the thickness that the recipe tells.
func (p *plant) coatingOf(b *api.PlantBatch) coating {
	layers, thick := p.versionOf(b).Layers, slices.Clone(b.Stops)
	for _, x := range layers[len(thick):] {
		thick = append(thick, api.Range{Lo: x.Thick, Hi: x.Thick})
	}
	product := productOf(p.Products, p.recipe(b.Recipe).Product)
	return coating{p.PlantSetup, product.Demands, layers, thick}
}

// coatingIn returns the coating of the batch with a name, and the batch.
func coatingIn(s api.PlantSetup, log []api.PlantEntry, batch string) (coating, *api.PlantBatch, api.Errno) {
	p, _, e := replayed(s, log)
	if e != api.OK {
		return coating{}, nil, e
	}
	b := p.batch(batch)
	if b == nil {
		return coating{}, nil, api.ErrMissing
	}
	return p.coatingOf(b), b, api.OK
}

// boxes returns the boxes of the layers over wavelengths.
func (c coating) boxes(waves api.Range) ([]api.LayerBox, api.Errno) {
	var boxes []api.LayerBox
	_, e := firstWrong(c.layers, func(i int, x api.StackLayer) api.Errno {
		both, e := glass.Between(*glassOf(c.Glasses, x.Name), waves)
		if e != api.OK {
			return e
		}
		index, loss := both[0], both[1]
		if loss.Lo != loss.Hi {
			return api.ErrUnit
		}
		boxes = append(boxes, api.LayerBox{Index: index, Thick: c.thick[i], Loss: loss.Lo})
		return api.OK
	})
	if e != api.OK {
		return nil, e
	}
	return boxes, api.OK
}

// task returns the task of a demand.
func (c coating) task(d api.BandDemand) (api.BandTask, api.Errno) {
	boxes, e := c.boxes(d.Wave)
	if e != api.OK {
		return api.BandTask{}, e
	}
	return api.BandTask{Demands: []api.BandDemand{d}, Layers: boxes, On: c.On}, api.OK
}

// tasks returns the tasks of all demands, or the first error of one.
func (c coating) tasks() ([]api.BandTask, api.Errno) {
	var tasks []api.BandTask
	_, e := firstWrong(c.demands, func(_ int, d api.BandDemand) api.Errno {
		t, e := c.task(d)
		tasks = append(tasks, t)
		return e
	})
	if e != api.OK {
		return nil, e
	}
	return tasks, api.OK
}

// answer returns whether the coating keeps its demands.
func (c coating) answer() api.PlantAnswer {
	all := api.PlantAnswer{Answer: api.AnswerYes}
	for i, d := range c.demands {
		one := c.answerTo(d)
		if one.Answer == api.AnswerNo {
			one.Point.Demand = i
			return one
		}
		all.Answer = min(all.Answer, one.Answer)
	}
	return all
}

// answerTo returns whether the coating keeps a demand; the point has no number of it.
func (c coating) answerTo(d api.BandDemand) api.PlantAnswer {
	// A task that cannot be made has no demands, so that its answer has an error.
	t, _ := c.task(d)
	answer, _, point, e := band.Answer(t)
	if e != api.OK {
		return api.PlantAnswer{Answer: api.AnswerMaybe}
	}
	return api.PlantAnswer{Answer: answer, Point: point}
}

// explained returns whether the coating explains readings.
func (c coating) explained(readings []api.Reading) int {
	if len(readings) == 0 {
		return api.AnswerMaybe
	}
	answer := api.AnswerYes
	for _, r := range readings {
		answer = min(answer, c.explains(r))
	}
	return answer
}

// explains returns whether the coating explains a reading.
func (c coating) explains(r api.Reading) int {
	// Where no boxes can be made there are none, which is an error.
	boxes, _ := c.boxes(api.Range{Lo: r.Wave, Hi: r.Wave})
	answer, e := fit.Explains(api.FitTask{Boxes: boxes, On: c.On, Readings: []api.Reading{r}})
	if e != api.OK {
		return api.AnswerMaybe
	}
	return answer
}

// TasksOf returns the tasks of a batch.
func TasksOf(s api.PlantSetup, log []api.PlantEntry, batch string) ([]api.BandTask, api.Errno) {
	c, _, e := coatingIn(s, log, batch)
	if e != api.OK {
		return nil, e
	}
	return c.tasks()
}

// AnswerOf returns whether a batch keeps its demands.
func AnswerOf(s api.PlantSetup, log []api.PlantEntry, batch string) (api.PlantAnswer, api.Errno) {
	c, _, e := coatingIn(s, log, batch)
	if e != api.OK {
		return api.PlantAnswer{}, e
	}
	return c.answer(), api.OK
}

// ExplainedOf returns whether the readings of a batch are explained.
func ExplainedOf(s api.PlantSetup, log []api.PlantEntry, batch string) (int, api.Errno) {
	c, b, e := coatingIn(s, log, batch)
	if e != api.OK {
		return 0, e
	}
	return c.explained(b.Readings), api.OK
}
