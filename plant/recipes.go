package plant

import (
	"strings"

	"etalon/api"
	"etalon/stack"
	"etalon/text"
)

// enterRecipe has the words NAME, PRODUCT, and those of the layers.
func (p *plant) enterRecipe(words []string) api.Errno {
	name, product := words[0], words[1]
	switch {
	case len(p.Recipes) == api.MaxPlantRecipes:
		return api.ErrFull
	case !text.IsName(name):
		return api.ErrName
	case p.recipe(name) != nil:
		return api.ErrExists
	case productOf(p.Products, product) == nil:
		return api.ErrMissing
	}
	layers, e := p.layersOf(words[2:])
	if e != api.OK {
		return e
	}
	first := api.PlantVersion{Layers: layers}
	p.Recipes = append(p.Recipes, api.PlantRecipe{Name: name, Product: product, Versions: []api.PlantVersion{first}})
	return api.OK
}

// enterChange has the words NAME, VERSION, and those of the layers.
func (p *plant) enterChange(words []string) api.Errno {
	var version int
	if !numbersOf(words[1:2], &version) {
		return api.ErrSyntax
	}
	r, e := p.roomyRecipe(words[0], version)
	if e != api.OK {
		return e
	}
	layers, e := p.layersOf(words[2:])
	if e != api.OK {
		return e
	}
	r.Versions = append(r.Versions, api.PlantVersion{Layers: layers, Parents: []int{version}})
	return api.OK
}

// enterMerge has the words NAME, VERSION, VERSION.
func (p *plant) enterMerge(words []string) api.Errno {
	var a, b int
	if !numbersOf(words[1:], &a, &b) {
		return api.ErrSyntax
	}
	r, e := p.roomyRecipe(words[0], a, b)
	if e != api.OK {
		return e
	}
	base := common(r.Versions, a, b)
	if base == a || base == b {
		return api.ErrDouble
	}
	layers := func(number int) []api.StackLayer { return r.Versions[number-1].Layers }
	merged, _, e := MergedLayers(layers(base), layers(a), layers(b))
	if e != api.OK {
		return e
	}
	r.Versions = append(r.Versions, api.PlantVersion{Layers: merged, Parents: []int{a, b}})
	return api.OK
}

// roomyRecipe returns the recipe with a name, if it has versions of all these numbers, and room for one more.
func (p *plant) roomyRecipe(name string, versions ...int) (*api.PlantRecipe, api.Errno) {
	r, e := p.recipeWith(name, versions...)
	if e != api.OK {
		return nil, e
	}
	if len(r.Versions) == api.MaxPlantVersions {
		return nil, api.ErrFull
	}
	return r, api.OK
}

// layersOf returns the layers of the words of a text.
func (p *plant) layersOf(words []string) ([]api.StackLayer, api.Errno) {
	parts, e := stack.ParseStack(strings.Join(words, blank))
	if e != api.OK {
		return nil, e
	}
	// What ParseStack returns is right, so Unrolled has no error.
	layers, _ := stack.Unrolled(parts)
	if e := checkMaterials(p.Glasses, layers); e != api.OK {
		return nil, e
	}
	return layers, api.OK
}

// checkMaterials checks that the materials of all layers are there.
func checkMaterials(l []api.Glass, layers []api.StackLayer) api.Errno {
	_, e := firstWrong(layers, func(_ int, x api.StackLayer) api.Errno { return checkMaterial(l, x) })
	return e
}

func checkMaterial(l []api.Glass, x api.StackLayer) api.Errno {
	if glassOf(l, x.Name) == nil {
		return api.ErrMissing
	}
	return api.OK
}
