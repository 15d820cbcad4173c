package dav

import (
	"slices"

	"calepin/api"
)

// element is an element of a document, with what stands in it.
type element struct {
	name  api.Prop
	text  string // its characters; of several parts of them, which elements part, the last one
	inner []element
}

// tree is the element with which ps begin, and the pieces behind it.
func tree(ps []api.Piece) (element, []api.Piece) {
	e := element{name: api.Prop{Space: ps[0].Space, Name: ps[0].Name}}
	for ps = ps[1:]; ps[0].Kind != api.Close; {
		if ps[0].Kind == api.Chars {
			e.text = ps[0].Text
			ps = ps[1:]
			continue
		}
		var inner element
		inner, ps = tree(ps)
		e.inner = append(e.inner, inner)
	}
	return e, ps[1:]
}

// named are the elements in e that have one of these names.
func (e element) named(names ...api.Prop) []element {
	var found []element
	for _, i := range e.inner {
		if slices.Contains(names, i.name) {
			found = append(found, i)
		}
	}
	return found
}

// only is the one element in e that has one of these names, false if there is none, or another one.
func (e element) only(names ...api.Prop) (element, bool) {
	found := e.named(names...)
	if len(found) != 1 {
		return element{}, false
	}
	return found[0], true
}

// characters are those in e, false if elements stand there.
func (e element) characters() (string, bool) {
	return e.text, len(e.inner) == 0
}

// askOf is what a document asks for, false if it asks nothing.
func askOf(root element) (api.Ask, bool) {
	if root.text != "" {
		return api.Ask{}, false
	}
	switch root.name {
	case dav("propfind"):
		return propfind(root)
	case dav("sync-collection"):
		return syncCollection(root)
	case card("addressbook-multiget"):
		return multiget(root)
	}
	return api.Ask{}, false
}

// propfind is what a D:propfind asks for.
func propfind(root element) (api.Ask, bool) {
	what, ok := root.only(dav("allprop"), dav("propname"), dav("prop"))
	if !ok {
		return api.Ask{}, false
	}
	switch what.name {
	case dav("allprop"):
		return api.Ask{Kind: api.AskAll}, true
	case dav("propname"):
		return api.Ask{Kind: api.AskNames}, true
	}
	props, ok := propsOf(what)
	return api.Ask{Kind: api.AskProps, Props: props}, ok
}

// syncCollection is what a D:sync-collection asks for.
func syncCollection(root element) (api.Ask, bool) {
	token, oneToken := root.only(dav("sync-token"))
	level, oneLevel := root.only(dav("sync-level"))
	prop, oneProp := root.only(dav("prop"))
	since, plainToken := token.characters()
	deep, plainLevel := level.characters()
	props, plainProp := propsOf(prop)
	once := oneToken && oneLevel && oneProp
	plain := plainToken && plainLevel && plainProp
	return api.Ask{Kind: api.AskSync, Token: since, Props: props}, once && plain && deep == syncLevel
}

// multiget is what a C:addressbook-multiget asks for.
func multiget(root element) (api.Ask, bool) {
	prop, once := root.only(dav("prop"))
	props, ok := propsOf(prop)
	a := api.Ask{Kind: api.AskMulti, Props: props}
	for _, href := range root.named(dav("href")) {
		path, plain := href.characters()
		if !plain || path == "" {
			return api.Ask{}, false
		}
		a.Hrefs = append(a.Hrefs, path)
	}
	return a, once && ok
}

// propsOf are the properties that a D:prop names, false if something else stands in it.
func propsOf(prop element) ([]api.Prop, bool) {
	if prop.text != "" {
		return nil, false
	}
	var props []api.Prop
	for _, p := range prop.inner {
		if p.text != "" || len(p.inner) > 0 {
			return nil, false
		}
		props = append(props, p.name)
	}
	return props, true
}

// toldOf is what is found in a document at the places where a multistatus has it, whatever else it holds.
func toldOf(root element) api.Told {
	var t api.Told
	for _, response := range root.named(dav("response")) {
		t.Items = append(t.Items, itemOf(response))
	}
	token, _ := root.only(dav("sync-token"))
	t.Token = token.text
	return t
}

// itemOf is what is found in a D:response.
func itemOf(response element) api.Item {
	href, _ := response.only(dav("href"))
	_, gone := response.only(dav("status"))
	propstat, _ := response.only(dav("propstat"))
	prop, _ := propstat.only(dav("prop"))
	tag, _ := prop.only(dav("getetag"))
	data, _ := prop.only(card("address-data"))
	_, book := prop.only(dav("resourcetype"))
	return api.Item{Href: href.text, Gone: gone, Tag: tag.text, Data: data.text, Book: book}
}
