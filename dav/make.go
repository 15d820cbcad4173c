package dav

import (
	"calepin/api"
	"calepin/xml"
)

// What documents say by characters of their own.
const (
	syncLevel = "1"
	foundLine = "HTTP/1.1 200 OK"
	goneLine  = "HTTP/1.1 404 Not Found"
)

// dav is the name in the space DAV:.
func dav(name string) api.Prop {
	return api.Prop{Space: api.DavSpace, Name: name}
}

// card is the name in the space of address books.
func card(name string) api.Prop {
	return api.Prop{Space: api.CardSpace, Name: name}
}

// maker lays the pieces of a part of a document behind ps.
type maker func(ps []api.Piece) []api.Piece

// around makes an element with these parts in it.
func around(name api.Prop, parts ...maker) maker {
	return func(ps []api.Piece) []api.Piece {
		ps = append(ps, api.Piece{Kind: api.Open, Space: name.Space, Name: name.Name})
		for _, part := range parts {
			ps = part(ps)
		}
		return append(ps, api.Piece{Kind: api.Close, Space: name.Space, Name: name.Name})
	}
}

// chars makes characters.
func chars(text string) maker {
	return func(ps []api.Piece) []api.Piece {
		return append(ps, api.Piece{Kind: api.Chars, Text: text})
	}
}

// when makes the part, or nothing.
func when(holds bool, part maker) maker {
	return func(ps []api.Piece) []api.Piece {
		if !holds {
			return ps
		}
		return part(ps)
	}
}

// each makes a part of each of the list.
func each[T any](list []T, part func(x T) maker) maker {
	return func(ps []api.Piece) []api.Piece {
		for _, x := range list {
			ps = part(x)(ps)
		}
		return ps
	}
}

// asking makes the document that asks for a, whose kind is one.
func asking(a api.Ask) maker {
	prop := around(dav("prop"), each(a.Props, func(p api.Prop) maker { return around(p) }))
	switch a.Kind {
	case api.AskAll:
		return around(dav("propfind"), around(dav("allprop")))
	case api.AskNames:
		return around(dav("propfind"), around(dav("propname")))
	case api.AskSync:
		token := around(dav("sync-token"), when(a.Token != "", chars(a.Token)))
		level := around(dav("sync-level"), chars(syncLevel))
		return around(dav("sync-collection"), token, level, prop)
	case api.AskMulti:
		return around(card("addressbook-multiget"), prop, each(a.Hrefs, href))
	}
	return around(dav("propfind"), prop)
}

// telling makes the document that tells t.
func telling(t api.Told) maker {
	token := when(t.Token != "", around(dav("sync-token"), chars(t.Token)))
	return around(dav("multistatus"), each(t.Items, response), token)
}

// response makes what tells an item.
func response(i api.Item) maker {
	if i.Gone {
		return around(dav("response"), href(i.Href), status(goneLine))
	}
	kind := around(dav("resourcetype"), around(dav("collection")), around(card("addressbook")))
	prop := around(dav("prop"),
		when(i.Tag != "", around(dav("getetag"), chars(i.Tag))),
		when(i.Data != "", around(card("address-data"), chars(i.Data))),
		when(i.Book, kind))
	return around(dav("response"), href(i.Href), around(dav("propstat"), prop, status(foundLine)))
}

// href makes the element of a path, which must have characters: an empty one would be no piece.
func href(path string) maker {
	return around(dav("href"), chars(path))
}

// status makes the element of a status.
func status(line string) maker {
	return around(dav("status"), chars(line))
}

// printed is the text of the document that root makes: else ErrBody, if it can't be one, or ErrLong.
func printed(root maker) (string, api.Errno) {
	text, e := xml.Print(root(nil))
	if e == api.ErrXML {
		return "", api.ErrBody
	}
	return text, e
}
