package grow_test

import (
	"fmt"

	"etalon/api"
	"etalon/grow"
)

// The example of the README: a layer is followed while it grows, and the next one makes up for it.
func ExampleCompensated() {
	track := api.GrowTrack{
		Rate: api.Range{Lo: 1800, Hi: 1850}, Error: 3,
		Readings: []api.GrowReading{{Second: 200, Thick: 368}, {Second: 235, Thick: 432}},
	}
	enclosures, errno := grow.Tracked(track)
	if errno != api.OK {
		fmt.Println("error", errno)
		return
	}
	fmt.Println(enclosures)
	stop := api.GrowStop{Layer: 0, Thick: api.Range{Lo: 429, Hi: 435}}
	fmt.Println(grow.FormatStop(stop))
	task := api.GrowTask{
		Design:  []api.Layer{{Index: 20000, Thick: 500}, {Index: 20000, Thick: 500}},
		Grown:   []api.Range{stop.Thick},
		Error:   5,
		Demands: []api.BandDemand{{Index: 10000, Wave: api.Range{Lo: 4000, Hi: 4000}, Most: 100}},
		On:      api.Substrate{Index: 10000},
	}
	answer, point, _ := grow.Released(task)
	fmt.Println(answer, point)
	thick, _ := grow.Compensated(task, 50)
	task.Design[1].Thick = thick
	tolerance, errno := grow.Tolerance(task, 50)
	fmt.Println(thick, tolerance, errno)
	// Output:
	// [{365000 370000} {429000 434750}]
	// 0 429 435
	// 0 {0 4000 0}
	// 549 5 0
}

// The next example of the README: turning values of a monitor, and what a layer is between them.
func ExampleTurns() {
	signal := api.GrowSignal{Noise: 1, Samples: []float32{0, 5, 9, 10, 9, 4, 3, 8}}
	turns, errno := grow.Turns(signal)
	fmt.Println(turns, errno)
	quarter := api.GrowQuarter{Index: 20000, Wave: 5000, Order: 1}
	thick, _ := grow.QuarterThick(quarter)
	rate, _ := grow.RateOf(quarter, api.Range{Lo: 100, Hi: 125})
	end, errno := grow.EndAt(quarter, rate, api.Range{Lo: 2, Hi: 3})
	fmt.Println(thick, rate, end, errno)
	// Output:
	// [{true 2 4 5} {false 5 6 7}] 0
	// {625 625} {5000 6250} {635 644} 0
}

// The other example of the README: what may be switched, and in which order.
func ExampleSequence() {
	chamber := api.GrowChamber{
		Devices: []string{"shutter", "source", "pump"},
		Rules:   []api.GrowRule{{If: 1, IfOn: true, Then: 2, ThenOn: true}, {If: 0, IfOn: true, Then: 1, ThenOn: true}},
	}
	off, on := []bool{false, false, false}, []bool{true, true, true}
	_, rule, errno := grow.Switched(chamber, off, 1)
	fmt.Println(rule, errno == api.ErrBreak)
	change := api.GrowChange{From: off, To: on}
	sequence, labels, errno := grow.Sequence(chamber, change)
	fmt.Println(sequence, errno)
	least, errno := grow.CheckLabels(chamber, change, labels)
	fmt.Println(least, errno)
	// Output:
	// 0 true
	// [2 1 0] 0
	// 3 0
}
