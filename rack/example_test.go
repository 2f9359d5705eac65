package rack_test

import (
	"fmt"

	"etalon/api"
	"etalon/rack"
)

// The example of the README: parts that turn through the stations of a chamber, and what they get.
func ExampleThickness() {
	turns := api.Rack{Stations: 4, Planets: 2, Holders: 2, Gear: 1}
	flow := [][]int{{10, 0}, {5, 5}, {0, 10}, {5, 5}}
	place, errno := rack.PlaceAt(turns, [2]int{0, 0}, 1)
	if errno != api.OK {
		fmt.Println("error", errno)
		return
	}
	fmt.Println(place)
	all, _ := rack.AllThick(turns, flow, 2)
	spread, _ := rack.Spread(all[0])
	fmt.Println(all, spread)
	thick, _ := rack.Thickness(turns, flow, api.RackAsk{Part: [2]int{0, 0}, Steps: 6})
	steps, errno := rack.StepsFor(turns, flow, api.RackWish{Part: [2]int{0, 0}, Thick: 35})
	fmt.Println(thick, steps, errno)
	// Output:
	// [1 1]
	// [[15 5] [5 15]] {1 2}
	// 35 6 0
}

// The next example of the README: the mask with the greatest least thickness, and the weights that prove it.
func ExampleBestMask() {
	turns := api.Rack{Stations: 4, Planets: 2, Holders: 2, Gear: 1}
	flow := [][]int{{10, 0}, {5, 5}, {0, 10}, {5, 5}}
	table, errno := rack.TableOf(turns, flow, []int{0, 0, 1, 1})
	fmt.Println(table, errno)
	task := api.MaskTask{Table: [][]int{{4, 0}, {0, 2}}, Slack: api.Frac{Num: 0, Den: 1}}
	mask, weights, value, errno := rack.BestMask(task)
	if errno != api.OK {
		fmt.Println("error", errno)
		return
	}
	fmt.Println(2*mask.Open[0] == mask.Den, mask.Open[1] == mask.Den, value)
	bound, errno := rack.CheckWeights(task, weights)
	fmt.Println(bound, errno)
	// Output:
	// [[15 5] [5 15]] 0
	// true true [2 1]
	// [2 1] 0
}

// The next example of the README: a load with a cover, by which no other one has more parts.
func ExampleBestLoad() {
	load := api.RackLoad{Places: 2, Parts: []api.RackPart{{Name: "a", Fits: []int{0}}, {Name: "b", Fits: []int{0}}, {Name: "c", Fits: []int{0, 1}}}}
	places, cover, loaded, errno := rack.BestLoad(load)
	if errno != api.OK {
		fmt.Println("error", errno)
		return
	}
	placed, _ := rack.CheckPlaces(load, places)
	members, errno := rack.CheckCover(load, cover)
	fmt.Println(loaded, placed, members, errno)
	// Output:
	// 2 2 2 0
}

// The other example of the README: what became of a part and of its witness piece.
func ExampleStateOf() {
	var history []api.PartEvent
	for _, text := range []string{"coat p b1", "witness w b1", "strip p", "coat p b2"} {
		event, errno := rack.ParseEvent(text)
		if errno != api.OK {
			fmt.Println("error", errno)
			return
		}
		history = append(history, event)
	}
	state, _ := rack.StateOf(history, "p")
	parts, _ := rack.BatchOf(history, "b1")
	witnesses, errno := rack.WitnessesOf(history, "p")
	fmt.Println(state, parts, witnesses, errno)
	// Output:
	// {b2 false 1} [w] [] 0
}
